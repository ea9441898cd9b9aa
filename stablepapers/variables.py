"""The variables of terms, atoms and conditions, in the order of their occurrence."""


def term_variables(term):
    """Return the variables of a term, some of them several times."""
    if term[0] == "op":
        return term_variables(term[2]) + term_variables(term[3])
    if term[0] == "var":
        return [term[1]]
    return []


def atom_variables(atom):
    return [name for term in atom[2] for name in term_variables(term)]


def condition_variables(condition):
    if condition[0] == "compare":
        return term_variables(condition[2]) + term_variables(condition[3])
    return atom_variables(condition[1])


def conditions_variables(conditions):
    return [name for condition in conditions for name in condition_variables(condition)]


def distinct(found):
    """Return a list without what occurs a second time in it."""
    return list({one: True for one in found})


def without(names, known):
    """Return the different variables of a list that are not among the known ones."""
    return distinct([name for name in names if name not in known])
