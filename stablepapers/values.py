"""What is sure, and what is possible, under an assignment: a list of True, False and None (undecided)."""


def surely_counts(row, values):
    """Return whether a row surely counts."""
    _, yes, no = row
    return all(values[atom] is True for atom in yes) and all(values[atom] is False for atom in no)


def may_count(row, values):
    """Return whether a row may count."""
    _, yes, no = row
    return all(values[atom] is not False for atom in yes) and all(values[atom] is not True for atom in no)


def sure_weight(rows, values):
    """Return the sum of the weights of the rows that surely count."""
    return sum(row[0] for row in rows if surely_counts(row, values))


def greatest_weight(rows, values):
    """Return the sum of the weights of the rows that may count."""
    return sum(row[0] for row in rows if may_count(row, values))


def surely_holds(condition, values):
    """Return whether a condition surely holds."""
    kind = condition[0]
    if kind == "yes":
        return values[condition[1]] is True
    if kind == "no":
        return values[condition[1]] is False
    if kind == "least":
        return sure_weight(condition[2], values) >= condition[1]
    return greatest_weight(condition[2], values) < condition[1]


def surely_fails(condition, values):
    """Return whether a condition surely fails."""
    kind = condition[0]
    if kind == "yes":
        return values[condition[1]] is False
    if kind == "no":
        return values[condition[1]] is True
    if kind == "least":
        return greatest_weight(condition[2], values) < condition[1]
    return sure_weight(condition[2], values) >= condition[1]


def body_surely_holds(body, values):
    """Return whether a body surely holds."""
    return all(surely_holds(condition, values) for condition in body)


def body_surely_fails(body, values):
    """Return whether a body surely fails."""
    return any(surely_fails(condition, values) for condition in body)


def condition_cut_off(condition, group, values):
    """Return whether a condition cannot hold without one of the atoms of a group being there before."""
    if condition[0] == "yes":
        return condition[1] in group
    if condition[0] == "least":
        rows = [row for row in condition[2] if not any(atom in group for atom in row[1])]
        return greatest_weight(rows, values) < condition[1]
    return False


def cut_off(body, group, values):
    """Return whether a body surely fails or has a condition that is cut off by a group of atoms."""
    return any(
        surely_fails(condition, values) or condition_cut_off(condition, group, values) for condition in body
    )
