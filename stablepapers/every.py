"""All stable candidates of a program, with list papers."""

from stablepapers.founded import model_paper, model_right, paper_atoms
from stablepapers.programs import with_denials
from stablepapers.refuted import none_right


def exclusion(program, candidate):
    """Return the body of a deny that holds in one candidate alone."""
    inside = {atom: True for atom in candidate}
    return [("yes", atom) if atom in inside else ("no", atom) for atom in range(len(program[1]))]


def model_papers(program, candidates):
    return [model_paper(program, candidate) for candidate in candidates]


def all_candidates(solver, limit):
    """Return all stable candidates with a list paper, or one more than the limit with their model papers."""
    program = solver.program
    found = []
    search = solver.begin([])
    candidate = search.run()
    while candidate is not None:
        found.append(candidate)
        if len(found) > limit:
            return ("more", found, model_papers(program, found))
        search.refuse(exclusion(program, candidate))
        candidate = search.run()
    return ("all", found, (model_papers(program, found), search.node))


def papers_right(program, papers):
    """Return whether some model papers are accepted and their candidates are all different."""
    if not all(model_right(program, paper) for paper in papers):
        return False
    return len({tuple(paper_atoms(paper)): True for paper in papers}) == len(papers)


def list_right(program, paper):
    """Return whether a list paper is accepted."""
    papers, last = paper
    if not papers_right(program, papers):
        return False
    bodies = [exclusion(program, paper_atoms(one)) for one in papers]
    return none_right(with_denials(program, bodies), last)
