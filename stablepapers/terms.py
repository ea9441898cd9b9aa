"""The values of terms, and the instances of atoms and conditions, under a substitution.

A substitution is a dict from variables to constants. A constant is an integer or the name of a symbol.
"""


def rank(constant):
    """Return a key by which constants are ordered: integers, then symbols."""
    if isinstance(constant, int):
        return (0, constant)
    return (1, constant)


def result(sign, left, right):
    """Return the result of an operation on two integers."""
    if sign == "+":
        return left + right
    if sign == "-":
        return left - right
    return left * right


def value(term, names):
    """Return the value of a term under a substitution, or None."""
    kind = term[0]
    if kind == "var":
        return names[term[1]]
    if kind != "op":
        return term[1]
    left = value(term[2], names)
    right = value(term[3], names)
    if isinstance(left, int) and isinstance(right, int):
        return result(term[1], left, right)
    return None


def holds(sign, left, right):
    """Return whether a relation holds between two constants."""
    first, second = rank(left), rank(right)
    if sign == "=":
        return first == second
    if sign == "!=":
        return first != second
    if sign == "<":
        return first < second
    if sign == "<=":
        return first <= second
    if sign == ">":
        return first > second
    return first >= second


def comparison_holds(comparison, names):
    """Return whether a comparison holds under a substitution."""
    _, sign, left, right = comparison
    first = value(left, names)
    second = value(right, names)
    if first is None or second is None:
        return False
    return holds(sign, first, second)


def atom_instance(atom, names, universe):
    """Return the instance of an atom as a pair (name, values), or None."""
    _, name, terms = atom
    found = []
    for term in terms:
        constant = value(term, names)
        if constant is None or constant not in universe:
            return None
        found.append(constant)
    return (name, tuple(found))


def conditions_instance(conditions, names, universe):
    """Return the pair of the yes atoms and the no atoms of a list of conditions, or None."""
    yes, no = [], []
    for condition in conditions:
        if condition[0] == "compare":
            if not comparison_holds(condition, names):
                return None
        else:
            atom = atom_instance(condition[1], names, universe)
            if atom is None:
                return None
            if condition[0] == "yes":
                yes.append(atom)
            else:
                no.append(atom)
    return (tuple(yes), tuple(no))


def substitutions(names, wanted, universe):
    """Return all extensions of a substitution to more variables, in lexicographic order."""
    found = [dict(names)]
    for name in wanted:
        found = [{**known, name: constant} for known in found for constant in universe]
    return found
