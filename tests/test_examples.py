"""The examples of the document as they stand."""

import unittest

from examples import run_examples
from surershares import errors, keys, samplers

KEYS = r"""
    >>> keys = Keys.of("user\nshop tells city")
    >>> keys.names, keys.pairs, keys.told("shop"), keys.closed(("user", "shop")), keys.closed(("user", "#"))
    (('city', 'shop', 'user'), (('shop', 'city'),), ('city',), ('city', 'shop', 'user'), ('#',))
    >>> keys.keysets
    ((), ('city',), ('user',), ('city', 'shop'), ('city', 'user'), ('city', 'shop', 'user'), ('#',))
    >>> within(("city",), ("city", "user")), within(("user",), ("city", "shop")), within(("#",), ("city",))
    (True, False, False)
    >>> joint(("user",), ("city", "shop")), common(("city", "user"), ("city", "shop")), common(("#",), ("user",))
    (('city', 'shop', 'user'), ('city',), ('user',))
    >>> below(keys, ("city", "user")), tops(keys, ("city", "shop", "user"))
    ([(), ('city',), ('user',), ('city', 'user')], ('shop', 'user'))
    >>> keyset_text(("city", "shop")), keyset_of(keys, "user+shop"), is_keyset(keys, ("shop",))
    ('city+shop', ('city', 'shop', 'user'), False)
"""

SAMPLERS = r"""
    >>> sampler = Sampler(keys, ("user", "shop"), (1, 4), salt="day")
    >>> sampler.keyset, sampler.text, sampler.at((1, 1)).text, sampler == Sampler.of(keys, " shop+user  1/4 day")
    (('city', 'shop', 'user'), 'city+shop+user 1/4 day', 'city+shop+user 1 day', True)
    >>> Sampler(keys, ("user",), (2, 4))
    raises BadShare(given=(2, 4))
    >>> one = Pipeline.of(keys, "user 1/2; user 1/4; user 1/2 day; # 1/10")
    >>> one.share(("user",)), one.share(("city", "user")), one.together(("city", "user")), one.together(("#",))
    ((1, 8), (1, 1), (1, 8), (1, 80))
    >>> [one.squares(keyset) for keyset in ((), ("city",), ("user",), ("city", "user"), ("#",))]
    [(1, 1), (0, 1), (7, 1), (0, 1), (72, 1)]
    >>> one.plain.text, one == one.plain, one >> one == one, (one >> one.salted("b")).plain.text
    ('user 1/8; # 1/10', True, True, 'user 1/64; # 1/100')
    >>> two = Pipeline.of(keys, "city+user 1/2; user 1/4")
    >>> one <= two, two <= one, (one & two).text, (one | two).text, ("city", "user") in two, ("user",) in two
    (False, False, 'user 1/8; city+user 1/2; # 1/10', 'user 1/4', True, True)
"""


class Examples(unittest.TestCase):
    def test_keys_and_samplers(self):
        names = {}
        for module in (errors, keys, samplers):
            names.update(vars(module))
        run_examples(self, KEYS, names)
        run_examples(self, SAMPLERS, names)


if __name__ == "__main__":
    unittest.main()
