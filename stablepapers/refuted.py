"""None papers: trees of steps and splits which show that a program has no stable model."""

from stablepapers.values import body_surely_fails, body_surely_holds, cut_off, surely_holds


def rules_by_head(rules):
    """Return a dict from each atom to the numbers of the rules that may derive it."""
    found = {}
    for number, (kind, head, _) in enumerate(rules):
        if kind != "deny":
            found.setdefault(head, []).append(number)
    return found


def fire_right(rules, number, values):
    if not 0 <= number < len(rules):
        return False
    kind, _, body = rules[number]
    return kind != "choose" and body_surely_holds(body, values)


def block_right(rules, number, place, values):
    if not 0 <= number < len(rules):
        return False
    kind, head, body = rules[number]
    if kind == "choose" or (kind == "rule" and values[head] is not False):
        return False
    if not 0 <= place < len(body) or body[place][0] not in ("yes", "no"):
        return False
    return all(surely_holds(condition, values) for other, condition in enumerate(body) if other != place)


def only_right(rules, heads, atom, number, values):
    if not 0 <= atom < len(values) or values[atom] is not True:
        return False
    able = heads.get(atom, [])
    return number in able and all(body_surely_fails(rules[other][2], values) for other in able if other != number)


def unfounded_right(rules, heads, atoms, values):
    group = {atom: True for atom in atoms}
    if len(atoms) == 0 or len(group) < len(atoms) or not all(0 <= atom < len(values) for atom in atoms):
        return False
    return all(cut_off(rules[number][2], group, values) for atom in atoms for number in heads.get(atom, []))


def step_right(rules, heads, step, values):
    """Return whether a step is right under an assignment."""
    kind = step[0]
    if kind == "fire":
        return fire_right(rules, step[1], values)
    if kind == "block":
        return block_right(rules, step[1], step[2], values)
    if kind == "only":
        return only_right(rules, heads, step[1], step[2], values)
    return unfounded_right(rules, heads, step[1], values)


def settings(rules, step):
    """Return the pairs of an atom and the value that a right step sets; a deny that fires sets none."""
    kind = step[0]
    if kind == "unfounded":
        return [(atom, False) for atom in step[1]]
    if kind == "only":
        return [(one[1], one[0] == "yes") for one in rules[step[2]][2] if one[0] in ("yes", "no")]
    rule_kind, head, body = rules[step[1]]
    if kind == "block":
        sign, atom = body[step[2]]
        return [(atom, sign == "no")]
    return [] if rule_kind == "deny" else [(head, True)]


def denied(rules, step):
    """Return whether a step is the fire of a deny."""
    return step[0] == "fire" and rules[step[1]][0] == "deny"


def after_step(rules, step, values):
    """Return the assignment after a right step, or None if the step is a clash."""
    if denied(rules, step):
        return None
    after = list(values)
    for atom, value in settings(rules, step):
        if after[atom] == (not value):
            return None
        after[atom] = value
    return after


def with_value(values, atom, value):
    """Return an assignment in which one more atom is decided."""
    after = list(values)
    after[atom] = value
    return after


def after_steps(rules, heads, node, values):
    """Return whether the steps of a node are right with no clash before the last one, and the assignment after them.

    The assignment is None if the last step is a clash.
    """
    now = values
    for step in node[0]:
        if now is None or not step_right(rules, heads, step, now):
            return (False, None)
        now = after_step(rules, step, now)
    return (True, now)


def node_right(rules, node, values):
    """Return whether a node is accepted under an assignment."""
    heads = rules_by_head(rules)
    # The nodes to check are kept in a list, as splits may be nested too deep for a function that calls itself.
    waiting = [(node, values)]
    while waiting:
        checked, before = waiting.pop()
        right, after = after_steps(rules, heads, checked, before)
        if not right or (checked[1] is None) != (after is None):
            return False
        if after is not None:
            _, atom, first, second = checked[1]
            if not 0 <= atom < len(values) or after[atom] is not None:
                return False
            waiting.append((second, with_value(after, atom, False)))
            waiting.append((first, with_value(after, atom, True)))
    return True


def none_right(program, node):
    """Return whether a none paper is accepted."""
    return node_right(program[2], node, [None] * len(program[1]))
