"""What holds in a candidate, and which candidates are stable.

The functions only ask a candidate and a founded list what is in them, so dicts serve inside the package as well.
"""

from stablepapers.variables import distinct


def row_counts(row, candidate):
    """Return whether a row counts in a candidate."""
    _, yes, no = row
    return all(atom in candidate for atom in yes) and not any(atom in candidate for atom in no)


def weight_of(rows, candidate):
    """Return the sum of the weights of the rows that count in a candidate."""
    return sum(row[0] for row in rows if row_counts(row, candidate))


def founded_weight(rows, founded, candidate):
    """Return the sum of the weights of the rows that count with their yes atoms founded."""
    return sum(
        weight for weight, yes, no in rows
        if all(atom in founded for atom in yes) and not any(atom in candidate for atom in no)
    )


def condition_holds(condition, candidate):
    """Return whether a condition holds in a candidate."""
    kind = condition[0]
    if kind == "yes":
        return condition[1] in candidate
    if kind == "no":
        return condition[1] not in candidate
    if kind == "least":
        return weight_of(condition[2], candidate) >= condition[1]
    return weight_of(condition[2], candidate) < condition[1]


def body_holds(body, candidate):
    """Return whether a body holds in a candidate."""
    return all(condition_holds(condition, candidate) for condition in body)


def condition_supported(condition, founded, candidate):
    kind = condition[0]
    if kind == "yes":
        return condition[1] in founded
    if kind == "least":
        return founded_weight(condition[2], founded, candidate) >= condition[1]
    return condition_holds(condition, candidate)


def supported(body, founded, candidate):
    """Return whether a body is supported by the atoms that are founded."""
    return all(condition_supported(condition, founded, candidate) for condition in body)


def may_derive(rule, candidate):
    """Return whether a rule may put its head into the derived set of a candidate."""
    kind, head, _ = rule
    return kind == "rule" or (kind == "choose" and head in candidate)


def awaited_atoms(body):
    """Return the atoms that can make a body supported by being founded."""
    found = []
    for condition in body:
        if condition[0] == "yes":
            found.append(condition[1])
        elif condition[0] == "least":
            found.extend([atom for _, yes, _ in condition[2] for atom in yes])
    return found


def rules_by_awaited_atom(rules, numbers):
    """Return a dict from each atom to the numbers of the rules that are to be looked at again when it is founded."""
    waiting = {}
    for number in numbers:
        for atom in distinct(awaited_atoms(rules[number][2])):
            waiting.setdefault(atom, []).append(number)
    return waiting


def derivation(rules, candidate):
    """Return the pairs of an atom of the derived set and the number of its rule, in the order of the derivation."""
    inside = {atom: True for atom in candidate}
    queue = [number for number, rule in enumerate(rules) if may_derive(rule, inside)]
    waiting = rules_by_awaited_atom(rules, queue)
    founded = {}
    place = 0
    while place < len(queue):
        _, head, body = rules[queue[place]]
        if head not in founded and supported(body, founded, inside):
            founded[head] = queue[place]
            queue.extend(waiting.get(head, []))
        place += 1
    return list(founded.items())


def derived(program, candidate):
    """Return the derived set of a candidate as an ascending list."""
    return sorted([atom for atom, _ in derivation(program[2], candidate)])


def is_stable(program, candidate):
    """Return whether a candidate is stable."""
    if candidate != derived(program, candidate):
        return False
    inside = {atom: True for atom in candidate}
    return not any(kind == "deny" and body_holds(body, inside) for kind, _, body in program[2])


def cost_of(program, candidate):
    """Return the cost of a candidate."""
    return weight_of(program[3], {atom: True for atom in candidate})
