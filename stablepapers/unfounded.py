"""The greatest unfounded list of atoms under an assignment."""

from stablepapers.counts import Counts
from stablepapers.sources import Sources
from stablepapers.tables import Tables


def unfounded_atoms(rules, values):
    """Return the greatest list of atoms that are not False and that no rule can found, ascending."""
    tables = Tables(rules, len(values))
    counts = Counts(tables)
    for atom, value in enumerate(values):
        if value is not None:
            counts.assign(atom, value)
    return Sources(tables, counts).unfounded()
