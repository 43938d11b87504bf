"""A board of samplers: services with a Sampler each, within a budget and above their floors."""

from surershares.basics import ONE, frozen, is_share
from surershares.deeds import check_budget, check_floors, tried
from surershares.errors import BadKind, BadShare, NoFloor, NoService, Taken
from surershares.keys import ITSELF
from surershares.samplers import Pipeline, check_keys
from surershares.streams import kept_by
from surershares.surer import compare
from surershares.tables import ORDERS


class Board:
    """Services, the budget, floors and logs, and all that was there ahead of each deed."""

    def __init__(self, keys):
        self._schema = keys
        self._services = {}
        self._limit = ONE
        self._bounds = {}
        self._sifted = ()
        # No deed changes a dict that stands here: so what was there stays as it was.
        self._past = []

    @property
    def schema(self):
        """The Keys."""
        return self._schema

    @property
    def names(self):
        """The set of the NAMEs of the services."""
        return tuple(sorted(set(list(self._services))))

    @property
    def pipeline(self):
        """The Pipeline of all Samplers, by the NAMEs of their services."""
        return pipeline_of(self._schema, self._services)

    @property
    def cost(self):
        """The chance that a single record is kept."""
        return self.pipeline.together(ITSELF)

    @property
    def budget(self):
        """What the cost is at most."""
        return self._limit

    @property
    def floors(self):
        """The triples of NAME, kind and text of the floors."""
        names = sorted(set(list(self._bounds)))
        return tuple([(name, self._bounds[name][0], self._bounds[name][1].text or "-") for name in names])

    @property
    def logs(self):
        """What was sifted, each with what was kept of it."""
        return self._sifted

    def __getitem__(self, name):
        if name not in self._services:
            raise NoService(name)
        return self._services[name]

    def __setitem__(self, name, sampler):
        check_keys(self._schema, sampler.schema)
        self.serve(with_item(self._services, name, sampler))

    def __iadd__(self, other):
        name, sampler = other
        check_keys(self._schema, sampler.schema)
        if name in self._services:
            raise Taken(name)
        self.serve(with_item(self._services, name, sampler))
        return self

    def __contains__(self, name):
        return name in self._services

    def __len__(self):
        return len(self._services)

    def __iter__(self):
        raise TypeError("a Board can not be gone through")

    def leave(self, name):
        """From now on there is no service of this NAME."""
        check_service(self._services, name)
        self.serve(without_item(self._services, name))

    def retune(self, name, share):
        """From now on the Sampler of this service has this share."""
        check_service(self._services, name)
        self.serve(with_item(self._services, name, self._services[name].at(share)))

    def serve(self, services):
        """From now on these are the services, if budget and floors allow it."""
        pipeline = pipeline_of(self._schema, services)
        check_budget(pipeline, self._limit)
        check_floors(pipeline, self._bounds)
        self.remember()
        self._services = services

    def spend(self, budget):
        """From now on this is the budget."""
        limit = tuple(budget)
        if not is_share(limit):
            raise BadShare(limit)
        check_budget(self.pipeline, limit)
        self.remember()
        self._limit = limit

    def floor(self, name, pipeline, *, kind="all"):
        """From now on this is the floor of this NAME."""
        check_keys(self._schema, pipeline.schema)
        if kind not in ORDERS:
            raise BadKind(kind)
        check_floors(self.pipeline, {name: (kind, pipeline)})
        self.remember()
        self._bounds = with_item(self._bounds, name, (kind, pipeline))

    def lift(self, name):
        """From now on there is no floor of this NAME."""
        if name not in self._bounds:
            raise NoFloor(name)
        self.remember()
        self._bounds = without_item(self._bounds, name)

    def effect(self, name, sampler):
        """How the Pipeline compares to that with this Sampler for this service."""
        check_keys(self._schema, sampler.schema)
        return compare(self.pipeline, pipeline_of(self._schema, with_item(self._services, name, sampler)))

    def sift(self, stream, numbers):
        """What is kept of the STREAM with these numbers of the coins; both are logged."""
        kept = kept_by(self.pipeline, stream, numbers)
        self.remember()
        self._sifted = (*self._sifted, (frozen(stream), kept))
        return kept

    def attempt(self, deeds):
        """What each of the deeds returns, all of them as one; none of them is done if one raises an error."""
        trial = self.twin()
        found = tuple([tried(trial, number, deed) for number, deed in enumerate(deeds)])
        self.remember()
        self.restore(trial.state())
        return found

    def state(self):
        """All that deeds can change, but for what can be taken back."""
        return (self._services, self._limit, self._bounds, self._sifted)

    def remember(self):
        """All that is there now is what is there again when the deed that comes is taken back."""
        self._past.append(self.state())

    def restore(self, state):
        """All is as it was in this state."""
        self._services, self._limit, self._bounds, self._sifted = state

    def undo(self):
        """Takes back the last deed; whether there was one."""
        if len(self._past) == 0:
            return False
        self.restore(self._past.pop())
        return True

    def fresh(self):
        """A Board in the same state, without deeds to take back."""
        other = Board(self._schema)
        other.restore(self.state())
        return other

    def twin(self):
        """A Board in the same state, with the same deeds to take back."""
        other = self.fresh()
        other._past = list(self._past)
        return other

    def __eq__(self, other):
        if not isinstance(other, Board) or self._schema != other._schema or self._services != other._services:
            return False
        return self._limit == other._limit and self.floors == other.floors and self._sifted == other._sifted


def pipeline_of(keys, services):
    """The Pipeline of the Samplers of these services, by NAME."""
    return Pipeline(keys, [services[name] for name in sorted(set(list(services)))])


def with_item(table, name, item):
    """The table with this item at this NAME."""
    found = {each: known for each, known in table.items()}
    found[name] = item
    return found


def without_item(table, name):
    """The table without the item at this NAME."""
    return {each: known for each, known in table.items() if each != name}


def check_service(services, name):
    """Raises NoService if there is no service of this NAME."""
    if name not in services:
        raise NoService(name)
