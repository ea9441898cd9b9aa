"""Stable candidates of the least cost, with best papers; certain and impossible atoms."""

from stablepapers.founded import model_paper, model_right, paper_atoms
from stablepapers.programs import with_denials
from stablepapers.refuted import none_right
from stablepapers.stable import cost_of


def costing(program, bound):
    """Return the body of a deny of all candidates that cost at least as much as a bound."""
    return [("least", bound, list(program[3]))]


def best_candidate(solver):
    """Return a stable candidate of the least cost with its cost and a best paper, or a none paper."""
    program = solver.program
    beyond = sum([row[0] for row in program[3]]) + 1
    search = solver.begin([costing(program, beyond)])
    best = None
    candidate = search.run()
    while candidate is not None:
        best = candidate
        search.lower_bound(cost_of(program, candidate))
        candidate = search.run()
    if best is None:
        # No candidate costs so much that the paper could use the deny, so it is one for the program itself.
        return ("none", search.node)
    return ("best", cost_of(program, best), best, (model_paper(program, best), search.node))


def best_right(program, paper):
    """Return whether a best paper is accepted."""
    first, last = paper
    if not model_right(program, first):
        return False
    cost = cost_of(program, paper_atoms(first))
    return none_right(with_denials(program, [costing(program, cost)]), last)


def certain_right(program, atom, paper):
    """Return whether a certain paper is accepted for an atom."""
    return none_right(with_denials(program, [[("yes", atom)]]), paper)


def impossible_right(program, atom, paper):
    """Return whether an impossible paper is accepted for an atom."""
    return none_right(with_denials(program, [[("no", atom)]]), paper)
