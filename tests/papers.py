"""Points 18 to 20 and 24 to 28 of DOC.md a second time, as close to their words as can be, and drawn papers.

The tests compare the checks of the program with it. What holds in a candidate and what is sure under an assignment
comes from definition.py.
"""

import definition

DERIVING = ("rule", "choose")


def in_range(number, things):
    return 0 <= number < len(things)


def stable_candidates(program):
    """Return all stable candidates by trying all candidates."""
    return [one for one in definition.subsets(range(len(program[1]))) if definition.is_stable(program, one)]


def cost(program, candidate):
    return definition.weight_of(program[3], candidate, candidate)


def holds(body, candidate):
    return all(definition.holds_in(condition, candidate) for condition in body)


def sure(body, values):
    return all(definition.surely(condition, values)[0] for condition in body)


def failing(body, values):
    return any(definition.surely(condition, values)[1] for condition in body)


def model_right(program, paper):
    """Return whether all three conditions of point 18 hold."""
    _, atoms, rules, _ = program
    candidate = [atom for atom, _ in paper]
    if len(set(candidate)) != len(candidate):
        return False
    if not all(in_range(atom, atoms) and in_range(rule, rules) for atom, rule in paper):
        return False
    for place, (atom, rule) in enumerate(paper):
        kind, head, body = rules[rule]
        if kind not in DERIVING or head != atom or not definition.supported(body, candidate[:place], candidate):
            return False
    for kind, head, body in rules:
        if holds(body, candidate) and (kind == "deny" or (kind == "rule" and head not in candidate)):
            return False
    return True


def cut_off(body, group, values):
    if failing(body, values):
        return True
    for condition in body:
        if condition[0] == "yes" and condition[1] in group:
            return True
        if condition[0] == "least":
            rows = [row for row in condition[2] if not set(row[1]) & set(group)]
            if definition.sure_and_possible(rows, values)[1] < condition[1]:
                return True
    return False


def step_right(rules, step, values):
    """Return whether a step is right under an assignment: point 19, with all indexes in range."""
    if step[0] == "fire":
        return in_range(step[1], rules) and rules[step[1]][0] != "choose" and sure(rules[step[1]][2], values)
    if step[0] == "block":
        _, number, place = step
        if not in_range(number, rules):
            return False
        kind, head, body = rules[number]
        if not (kind == "deny" or (kind == "rule" and values[head] is False)) or not in_range(place, body):
            return False
        return body[place][0] in ("yes", "no") and sure(body[:place] + body[place + 1:], values)
    if step[0] == "only":
        _, atom, number = step
        if not (in_range(atom, values) and values[atom] is True and in_range(number, rules)):
            return False
        if not (rules[number][0] in DERIVING and rules[number][1] == atom):
            return False
        others = rules[:number] + rules[number + 1:]
        return all(failing(body, values) for kind, head, body in others if kind in DERIVING and head == atom)
    atoms = step[1]
    if not atoms or len(set(atoms)) != len(atoms) or not all(in_range(atom, values) for atom in atoms):
        return False
    return all(cut_off(body, atoms, values) for kind, head, body in rules if kind in DERIVING and head in atoms)


def step_result(rules, step, values):
    """Return the assignment after a right step, and whether the step is a clash."""
    if step[0] == "fire":
        kind, head, _ = rules[step[1]]
        if kind == "deny":
            return list(values), True
        pairs = {(head, True)}
    elif step[0] == "block":
        kind, atom = rules[step[1]][2][step[2]]
        pairs = {(atom, kind == "no")}
    elif step[0] == "only":
        pairs = {(one[1], one[0] == "yes") for one in rules[step[2]][2] if one[0] in ("yes", "no")}
    else:
        pairs = {(atom, False) for atom in step[1]}
    clash = any(values[atom] is (not value) or (atom, not value) in pairs for atom, value in pairs)
    after = list(values)
    for atom, value in pairs:
        after[atom] = value
    return after, clash


def node_right(rules, node, values):
    """Return whether a node is accepted under an assignment: point 20."""
    steps, end = node
    clashes = []
    for step in steps:
        if not step_right(rules, step, values):
            return False
        values, clash = step_result(rules, step, values)
        clashes.append(clash)
    if end is None:
        return clashes[-1:] == [True] and True not in clashes[:-1]
    _, atom, first, second = end
    if True in clashes or not in_range(atom, values) or values[atom] is not None:
        return False
    left, right = list(values), list(values)
    left[atom], right[atom] = True, False
    return node_right(rules, first, left) and node_right(rules, second, right)


def none_right(program, node):
    return node_right(program[2], node, [None] * len(program[1]))


def denied(program, bodies):
    """Return the program with a deny appended for each body."""
    kind, atoms, rules, costs = program
    return (kind, atoms, rules + [("deny", None, body) for body in bodies], costs)


def exclusion(program, candidate):
    return [("yes" if atom in candidate else "no", atom) for atom in range(len(program[1]))]


def atoms_of(paper):
    return sorted(atom for atom, _ in paper)


def all_different(things):
    return all(one != other for place, one in enumerate(things) for other in things[:place])


def list_right(program, paper):
    papers, last = paper
    if not all(model_right(program, one) for one in papers):
        return False
    candidates = [atoms_of(one) for one in papers]
    bodies = [exclusion(program, one) for one in candidates]
    return all_different(candidates) and none_right(denied(program, bodies), last)


def best_right(program, paper):
    if not model_right(program, paper[0]):
        return False
    bound = cost(program, atoms_of(paper[0]))
    return none_right(denied(program, [[("least", bound, program[3])]]), paper[1])


def states(program, atoms, paper):
    """Return whether a model paper is accepted and its candidate is a list of atoms as pairs."""
    return model_right(program, paper) and [program[1][atom] for atom in atoms_of(paper)] == atoms


def atom_accepted(program, query, given):
    kind, atom = query
    occurs = atom in program[1]
    if given[0] == "no":
        return states(program, given[1], given[2]) and (atom in given[1]) == (kind == "impossible")
    if given[0] != "yes":
        return False
    if kind == "impossible" and not occurs:
        return given[1] is None
    if given[1] is None:
        return False
    bodies = [[("yes" if kind == "certain" else "no", program[1].index(atom))]] if occurs else []
    return none_right(denied(program, bodies), given[1])


def accepted(program, query, given):
    """Return whether an answer to a query about the text of a program is accepted: points 27 and 28."""
    if query[0] in ("certain", "impossible"):
        return atom_accepted(program, query, given)
    if query[0] == "all" and given[0] == "all":
        _, models, (papers, last) = given
        if len(models) != len(papers) or len(models) > query[1]:
            return False
        return all(map(states, [program] * len(papers), models, papers)) and list_right(program, (papers, last))
    if query[0] == "all" and given[0] == "more":
        _, models, papers = given
        fits = len(models) == len(papers) == query[1] + 1 and all_different(models)
        return fits and all(map(states, [program] * len(papers), models, papers))
    if query[0] in ("model", "best") and given[0] == "none":
        return none_right(program, given[1])
    if query[0] == "model" and given[0] == "model":
        return states(program, given[1], given[2])
    if query[0] == "best" and given[0] == "best":
        _, least, atoms, paper = given
        if not states(program, atoms, paper[0]) or least != cost(program, atoms_of(paper[0])):
            return False
        return best_right(program, paper)
    return False


def all_steps(rules, many):
    """Return all steps with indexes in range, but of the unfounded ones those with at most two atoms."""
    steps = [("fire", number) for number in range(len(rules))]
    steps += [("block", number, place) for number, rule in enumerate(rules) for place in range(len(rule[2]))]
    steps += [("only", atom, number) for atom in range(many) for number in range(len(rules))]
    return steps + [("unfounded", atoms) for atoms in definition.subsets(range(many)) if 0 < len(atoms) < 3]


def wrong_step(chooser, rules, many):
    """Return a step that need not be right, and whose indexes need not be in range."""
    def number(things):
        return chooser.choice([-1, len(things), chooser.randint(-3, len(things) + 2), chooser.randint(0, len(things))])

    kind = chooser.choice(["fire", "block", "only", "unfounded"])
    if kind == "fire":
        return (kind, number(rules))
    if kind == "block":
        return (kind, number(rules), chooser.randint(-2, 3))
    if kind == "only":
        return (kind, number(range(many)), number(rules))
    return (kind, [number(range(many)) for _ in range(chooser.randint(0, 3))])


def random_node(chooser, rules, values, wrong=0.03):
    """Return a drawn node: mostly of right steps that set something, with something wrong here and there."""
    steps = []
    while True:
        if chooser.random() < wrong:
            steps.append(wrong_step(chooser, rules, len(values)))
            if chooser.random() < 0.5:
                return (steps, None)
            continue
        found = []
        for step in all_steps(rules, len(values)):
            if step_right(rules, step, values):
                after, clash = step_result(rules, step, values)
                if clash or after != values or chooser.random() < wrong:
                    found.append((step, after, clash))
        free = [atom for atom, value in enumerate(values) if value is None]
        if not found and not free:
            return (steps, None)
        if free and (not found or chooser.random() < 0.2):
            return (steps, random_split(chooser, rules, values, free, wrong))
        step, values, clash = chooser.choice(found)
        steps.append(step)
        if clash:
            return (steps, None)


def random_split(chooser, rules, values, free, wrong):
    atom = chooser.choice(free)
    nodes = []
    for value in (True, False):
        inner = list(values)
        inner[atom] = value
        nodes.append(random_node(chooser, rules, inner, wrong))
    if chooser.random() < wrong:
        atom = chooser.randint(-2, len(values) + 1)
    if chooser.random() < wrong:
        nodes.reverse()
    return ("split", atom, *nodes)


def all_nodes(node):
    """Return a node and all nodes in it."""
    found = [node]
    for one in found:
        if one[1] is not None:
            found.extend(one[1][2:])
    return found


def copied(node):
    """Return a node with lists of its own."""
    steps, end = node
    steps = [(step[0], list(step[1])) if step[0] == "unfounded" else step for step in steps]
    return (steps, end and (end[0], end[1], copied(end[2]), copied(end[3])))


def changed_steps(chooser, steps, rules, many):
    steps = list(steps)
    place = chooser.randint(0, len(steps))
    kind = chooser.choice(["out", "in", "twice", "swap", "number"])
    if kind == "in" or not steps:
        steps.insert(place, wrong_step(chooser, rules, many))
        return steps
    place %= len(steps)
    if kind == "out":
        del steps[place]
    elif kind == "twice":
        steps.insert(place, steps[place])
    elif kind == "swap":
        other = chooser.randrange(len(steps))
        steps[place], steps[other] = steps[other], steps[place]
    else:
        steps[place] = changed_step(chooser, steps[place])
    return steps


def changed_step(chooser, step):
    """Return a step with another index, or with another list of atoms."""
    more = chooser.choice([-1, 1, 10 ** 20, -10 ** 20])
    if step[0] == "unfounded":
        atoms = list(step[1])
        if not atoms:
            return (step[0], [0])
        if chooser.random() < 0.5:
            return (step[0], atoms + [chooser.choice(atoms) + chooser.choice([0, more])])
        del atoms[chooser.randrange(len(atoms))]
        return (step[0], atoms)
    place = chooser.randrange(1, len(step))
    return step[:place] + (step[place] + more,) + step[place + 1:]


def changed_node(chooser, node, rules, many):
    """Return a node with one thing changed in it, or in a node in it."""
    steps, end = copied(node)
    if end is None:
        if chooser.random() < 0.15:
            return (steps, ("split", chooser.randrange(max(many, 1)), ([], None), ([], None)))
        return (changed_steps(chooser, steps, rules, many), None)
    sign, atom, first, second = end
    kind = chooser.choice(["steps", "atom", "exchange", "none", "first", "first", "second", "second"])
    if kind == "steps":
        return (changed_steps(chooser, steps, rules, many), end)
    if kind == "atom":
        return (steps, (sign, chooser.choice([-1, many, atom + 1, chooser.randrange(many)]), first, second))
    if kind == "exchange":
        return (steps, (sign, atom, second, first))
    if kind == "none":
        return (steps, None)
    if kind == "first":
        return (steps, (sign, atom, changed_node(chooser, first, rules, many), second))
    return (steps, (sign, atom, first, changed_node(chooser, second, rules, many)))


def changed_paper(chooser, paper, program):
    """Return a model paper with one thing changed."""
    paper = list(paper)
    place = chooser.randint(0, len(paper))
    pair = (chooser.randint(-1, len(program[1])), chooser.randint(-1, len(program[2])))
    kind = chooser.choice(["out", "in", "twice", "swap", "atom", "rule"])
    if kind == "in" or not paper:
        paper.insert(place, pair)
        return paper
    place %= len(paper)
    if kind == "out":
        del paper[place]
    elif kind == "twice":
        paper.insert(chooser.randint(0, len(paper)), paper[place])
    elif kind == "swap":
        other = chooser.randrange(len(paper))
        paper[place], paper[other] = paper[other], paper[place]
    elif kind == "atom":
        paper[place] = (pair[0], paper[place][1])
    else:
        paper[place] = (paper[place][0], pair[1])
    return paper


def loopy_program(chooser, many):
    """Return a random program with many loops through yes atoms and through "least" conditions."""
    rules = []
    for _ in range(chooser.randint(many, 3 * many)):
        kind = chooser.choice(["rule"] * 6 + ["choose"] * 3 + ["deny"] * chooser.choice([0, 0, 1]))
        body = []
        for _ in range(chooser.choice([0, 1, 1, 2, 2, 3])):
            sign = chooser.choice(["yes"] * 4 + ["no"] * 3 + ["least", "least", "below"])
            if sign in ("yes", "no"):
                body.append((sign, chooser.randrange(many)))
            else:
                body.append((sign, chooser.randint(-1, 4), definition.random_rows(chooser, many)))
        rules.append((kind, None if kind == "deny" else chooser.randrange(many), body))
    return ("program", [("a", (number,)) for number in range(many)], rules, definition.random_rows(chooser, many))


def fully_denied(chooser, program):
    """Return a program with a deny for each of its stable candidates, so that none is left."""
    bodies = [exclusion(program, one) for one in stable_candidates(program)]
    return denied(program, [chooser.sample(body, len(body)) for body in bodies])
