"""Searching several times in the program of a text."""

from stablepapers.programs import with_denials
from stablepapers.search import Search, search


class Solver:
    """Searches in the program of a list of statements; each search begins anew."""

    def __init__(self, statements, program):
        # The rules of the program tell all that the search needs, so the statements are not kept.
        self.program = program

    def solve(self, bodies):
        """Return a stable candidate of the program with a deny for each body, or a none paper."""
        return search(with_denials(self.program, bodies))

    def begin(self, bodies):
        """Return a search for the stable candidates of the program with a deny for each body, one after the other."""
        return Search(with_denials(self.program, bodies))
