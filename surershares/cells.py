"""The values of records that are made by cells: told by the cell in a KEYSET, and each its own elsewhere."""

from surershares.basics import power
from surershares.keys import ITSELF, tops


def cell_values(keys, keyset, base, cell, rest):
    """The digits of the cell to this base in the tops of the KEYSET, 0 in its other names, rest in all others."""
    if keyset == ITSELF:
        return tuple([0 for _ in keys.names])
    heads = tops(keys, keyset)
    return tuple([value_in(name, keyset, heads, base, cell, rest) for name in keys.names])


def value_in(name, keyset, heads, base, cell, rest):
    """The value in one name."""
    if name in heads:
        return cell // power(base, heads.index(name)) % base
    return 0 if name in keyset else rest
