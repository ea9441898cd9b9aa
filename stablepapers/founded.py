"""Model papers: an order in which the atoms of a stable candidate are derived, each with its rule."""

from stablepapers.stable import body_holds, derivation, supported


def model_paper(program, candidate):
    """Return a model paper of a stable candidate."""
    return derivation(program[2], candidate)


def paper_atoms(paper):
    """Return the atoms of the pairs of a model paper as an ascending list, with duplicates."""
    return sorted([atom for atom, _ in paper])


def pair_in_range(program, pair):
    atom, rule = pair
    return 0 <= atom < len(program[1]) and 0 <= rule < len(program[2])


def all_supported(rules, paper, inside):
    """Return whether each pair has a rule for its atom that is supported by the earlier pairs."""
    earlier = {}
    for atom, number in paper:
        kind, head, body = rules[number]
        if kind == "deny" or head != atom or not supported(body, earlier, inside):
            return False
        earlier[atom] = True
    return True


def rule_kept(rule, inside):
    """Return whether a candidate has the head that a rule asks for, or does not have what a deny forbids."""
    kind, head, body = rule
    if kind == "choose" or (kind == "rule" and head in inside):
        return True
    return not body_holds(body, inside)


def model_right(program, paper):
    """Return whether a model paper is accepted."""
    inside = {atom: True for atom, _ in paper}
    if len(inside) < len(paper) or not all(pair_in_range(program, pair) for pair in paper):
        return False
    return all_supported(program[2], paper, inside) and all(rule_kept(rule, inside) for rule in program[2])
