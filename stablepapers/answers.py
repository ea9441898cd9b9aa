"""Answers to queries about a text, and the check of answers."""

from stablepapers.best import best_candidate, best_right, certain_right, impossible_right
from stablepapers.every import all_candidates, list_right, papers_right
from stablepapers.founded import model_paper, model_right, paper_atoms
from stablepapers.parsing import parse
from stablepapers.programs import ground
from stablepapers.refuted import none_right
from stablepapers.solving import Solver
from stablepapers.stable import cost_of


def named(program, candidate):
    """Return the atoms of a candidate as pairs of a name and values."""
    return [program[1][atom] for atom in candidate]


def model_answer(solver):
    program = solver.program
    kind, found = solver.solve([])
    if kind == "none":
        return (kind, found)
    return (kind, named(program, found), model_paper(program, found))


def all_answer(solver, limit):
    kind, candidates, paper = all_candidates(solver, limit)
    return (kind, [named(solver.program, candidate) for candidate in candidates], paper)


def best_answer(solver):
    found = best_candidate(solver)
    if found[0] == "none":
        return found
    kind, cost, candidate, paper = found
    return (kind, cost, named(solver.program, candidate), paper)


def atom_number(program, atom):
    """Return the index of an atom in a program, or None if it does not occur there."""
    return program[1].index(atom) if atom in program[1] else None


def counterexample_denials(kind, number):
    """Return the bodies of denies that leave the candidates for which an atom is not certain or not impossible."""
    if number is None:
        return []
    return [[("yes" if kind == "certain" else "no", number)]]


def atom_answer(solver, kind, atom):
    """Return the answer to a query whether an atom is certain or impossible."""
    program = solver.program
    number = atom_number(program, atom)
    if number is None and kind == "impossible":
        return ("yes", None)
    result, found = solver.solve(counterexample_denials(kind, number))
    if result == "none":
        return ("yes", found)
    return ("no", named(program, found), model_paper(program, found))


def answer(text, query):
    """Return the answer to a query about a text."""
    statements = parse(text)
    solver = Solver(statements, ground(statements))
    kind = query[0]
    if kind == "model":
        return model_answer(solver)
    if kind == "all":
        return all_answer(solver, query[1])
    if kind == "best":
        return best_answer(solver)
    return atom_answer(solver, kind, query[1])


def named_right(program, atoms, paper):
    """Return whether some pairs are the atoms of an accepted model paper, in order."""
    return model_right(program, paper) and atoms == named(program, paper_atoms(paper))


def named_models(program, papers):
    """Return the atoms of the candidates of some accepted model papers."""
    return [named(program, paper_atoms(paper)) for paper in papers]


def check_all(program, limit, given):
    """Return whether an answer to a query about all models is accepted."""
    if given[0] not in ("all", "more"):
        return False
    kind, models, paper = given
    if kind == "more":
        fits = len(models) == limit + 1 and papers_right(program, paper)
        return fits and models == named_models(program, paper)
    fits = len(models) <= limit and list_right(program, paper)
    return fits and models == named_models(program, paper[0])


def check_best(program, given):
    """Return whether an answer about the least cost, but "none", is accepted."""
    if given[0] != "best":
        return False
    _, cost, atoms, paper = given
    if not named_right(program, atoms, paper[0]) or cost != cost_of(program, paper_atoms(paper[0])):
        return False
    return best_right(program, paper)


def check_yes(program, kind, number, paper):
    """Return whether a paper shows that an atom is certain or impossible."""
    if number is None and kind == "impossible":
        return paper is None
    if paper is None:
        return False
    if number is None:
        return none_right(program, paper)
    if kind == "certain":
        return certain_right(program, number, paper)
    return impossible_right(program, number, paper)


def check_atom(program, kind, atom, given):
    """Return whether an answer to a query about an atom is accepted."""
    if given[0] == "yes":
        return check_yes(program, kind, atom_number(program, atom), given[1])
    if given[0] != "no":
        return False
    _, atoms, paper = given
    return named_right(program, atoms, paper) and (atom in atoms) == (kind == "impossible")


def check_answer(text, query, given):
    """Return whether an answer to a query about a text is accepted."""
    program = ground(parse(text))
    kind = query[0]
    if kind == "all":
        return check_all(program, query[1], given)
    if kind in ("certain", "impossible"):
        return check_atom(program, kind, query[1], given)
    if given[0] == "none":
        return none_right(program, given[1])
    if kind == "best":
        return check_best(program, given)
    return given[0] == "model" and named_right(program, given[1], given[2])
