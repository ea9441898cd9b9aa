"""The constants of a list of statements."""

from stablepapers.terms import rank


def term_constants(term):
    """Return the symbols and integers that occur in a term."""
    if term[0] == "op":
        return term_constants(term[2]) + term_constants(term[3])
    if term[0] == "var":
        return []
    return [term[1]]


def atom_constants(atom):
    return [constant for term in atom[2] for constant in term_constants(term)]


def condition_constants(condition):
    if condition[0] == "compare":
        return term_constants(condition[2]) + term_constants(condition[3])
    return atom_constants(condition[1])


def conditions_constants(conditions):
    return [constant for condition in conditions for constant in condition_constants(condition)]


def members_constants(members):
    """Return the constants of the conditions of members: their weights are left out."""
    return [constant for _, _, conditions in members for constant in conditions_constants(conditions)]


def body_constants(body):
    """Return the constants of a body: the bounds of its sums are left out."""
    found = []
    for part in body:
        if part[0] == "sum":
            found.extend(members_constants(part[2]))
        else:
            found.extend(condition_constants(part))
    return found


def choices_constants(choices):
    found = []
    for _, atom, conditions in choices:
        found.extend(atom_constants(atom))
        found.extend(conditions_constants(conditions))
    return found


def statement_constants(statement):
    """Return the constants of a statement, some of them several times."""
    kind = statement[0]
    if kind == "rule":
        return atom_constants(statement[1]) + body_constants(statement[2])
    if kind == "deny":
        return body_constants(statement[1])
    if kind == "choose":
        return choices_constants(statement[2]) + body_constants(statement[4])
    if kind == "range":
        return list(range(statement[1], statement[2] + 1))
    return members_constants(statement[1])


def universe(statements):
    """Return the universe of a list of statements, in order."""
    found = {}
    for statement in statements:
        for constant in statement_constants(statement):
            found[constant] = True
    return sorted(found, key=rank)
