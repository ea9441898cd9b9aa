"""Points 7 to 11, 13 to 17 and 22 of DOC.md, and the count of point 12, a second time.

It is slow, and as close to the words of the document as can be. The tests compare the program with it. The random
texts and programs for that are made here, too.
"""

import itertools
import operator

ORDERS = {"<": operator.lt, "<=": operator.le, ">": operator.gt, ">=": operator.ge}
RESULTS = {"+": operator.add, "-": operator.sub, "*": operator.mul}


def place(constant):
    """Return a key for the order of point 7."""
    return (isinstance(constant, str), constant)


def walk(tree):
    """Go through a tree and the trees in it, from left to right; what point 7 leaves out is marked with False."""
    kind = tree[0]
    yield tree
    if kind == "op":
        inner = [tree[2], tree[3]]
    elif kind in ("yes", "no"):
        inner = [tree[1]]
    elif kind == "atom":
        inner = tree[2]
    elif kind == "compare":
        inner = [tree[2], tree[3]]
    elif kind in ("choice", "member"):
        inner = [tree[1], *tree[2]]
    elif kind == "sum":
        inner = [*tree[2], tree[3]]
    elif kind == "rule":
        inner = [tree[1], *tree[2]]
    elif kind in ("deny", "minimize"):
        inner = tree[1]
    elif kind == "choose":
        inner = [*tree[2], *tree[4]]
    else:
        inner = []
    for part in inner:
        yield from walk(part)


def variables(trees):
    """Return the variables of some trees by first occurrence."""
    return list(dict.fromkeys(tree[1] for outer in trees for tree in walk(outer) if tree[0] == "var"))


def universe(statements):
    found = set()
    for statement in statements:
        if statement[0] == "range":
            found.update(range(statement[1], statement[2] + 1))
        for tree in walk(statement):
            # Weights and bounds of sums are the only terms that are parts of members and sums.
            outside = []
            if tree[0] in ("rule", "yes", "no", "choice"):
                outside = tree[1][2] if tree[1][0] == "atom" else []
            elif tree[0] == "compare":
                outside = tree[2:]
            found.update(leaf[1] for term in outside for leaf in walk(term) if leaf[0] in ("int", "sym"))
    return sorted(found, key=place)


def body(statement):
    return statement[-1] if statement[0] in ("rule", "deny", "choose") else []


def globals_of(statement):
    heads = [statement[1]] if statement[0] == "rule" else []
    return variables(heads + [part[3] if part[0] == "sum" else part for part in body(statement)])


def parts_of(statement):
    """Return the choices and members of a statement."""
    return [tree for tree in walk(statement) if tree[0] in ("choice", "member")]


def locals_of(part, names):
    return [name for name in variables([part]) if name not in names]


def value(term, names):
    if term[0] == "op":
        left, right = value(term[2], names), value(term[3], names)
        if isinstance(left, int) and isinstance(right, int):
            return RESULTS[term[1]](left, right)
        return None
    return names[term[1]] if term[0] == "var" else term[1]


def holds(sign, left, right):
    if left is None or right is None:
        return False
    if sign in ORDERS:
        return ORDERS[sign](place(left), place(right))
    return (left == right) == (sign == "=")


def atom_instance(atom, names, constants):
    values = tuple(value(term, names) for term in atom[2])
    return (atom[1], values) if all(one is not None and one in constants for one in values) else None


def conditions_instance(conditions, names, constants):
    for condition in conditions:
        if condition[0] == "compare":
            if not holds(condition[1], value(condition[2], names), value(condition[3], names)):
                return None
        elif atom_instance(condition[1], names, constants) is None:
            return None
    return tuple(
        tuple(atom_instance(one[1], names, constants) for one in conditions if one[0] == kind) for kind in ("yes", "no")
    )


def extensions(names, wanted, constants):
    for values in itertools.product(constants, repeat=len(wanted)):
        yield {**names, **dict(zip(wanted, values))}


def rows_of(members, names, constants):
    rows = []
    for member in members:
        for more in extensions(names, locals_of(member, names), constants):
            found, weight = conditions_instance(member[2], more, constants), value(member[1], more)
            if found is not None and isinstance(weight, int) and 0 <= weight <= 999:
                rows.append((weight, *found))
    return rows


def plain_body(parts, names, constants):
    """Return the body of a plain instance, or None."""
    conditions = [part for part in parts if part[0] != "sum"]
    found = conditions_instance(conditions, names, constants)
    sums = [part for part in parts if part[0] == "sum"]
    if found is None or not all(isinstance(value(part[3], names), int) for part in sums):
        return None
    plain = [("yes", atom) for atom in found[0]] + [("no", atom) for atom in found[1]]
    for _, sign, members, bound in sums:
        kind, more = ("least", 0) if sign == ">=" else ("below", 1)
        plain.append((kind, value(bound, names) + more, rows_of(members, names, constants)))
    return plain


def plain_rules(statements):
    constants = universe(statements)
    rules, costs = [], []
    for statement in statements:
        if statement[0] == "minimize":
            costs += rows_of(statement[1], {}, constants)
        if statement[0] not in ("rule", "deny", "choose"):
            continue
        for names in extensions({}, globals_of(statement), constants):
            head = atom_instance(statement[1], names, constants) if statement[0] == "rule" else None
            plain = plain_body(body(statement), names, constants)
            if plain is None or (statement[0] == "rule" and head is None):
                continue
            if statement[0] != "choose":
                rules.append((statement[0], head, plain))
                continue
            rows = []
            for choice in statement[2]:
                for more in extensions(names, locals_of(choice, names), constants):
                    atom = atom_instance(choice[1], more, constants)
                    found = conditions_instance(choice[2], more, constants)
                    if atom is not None and found is not None:
                        own = [("yes", one) for one in found[0]] + [("no", one) for one in found[1]]
                        rules.append(("choose", atom, plain + own))
                        rows.append((1, (atom,) + found[0], found[1]))
            if statement[1] is not None:
                rules.append(("deny", None, plain + [("below", statement[1], rows)]))
            if statement[3] is not None:
                rules.append(("deny", None, plain + [("least", statement[3] + 1, rows)]))
    return rules, costs


def ground(statements):
    """Return the program of point 13."""
    rules, costs = plain_rules(statements)
    atoms = set()

    def collect(rows):
        for _, yes, no in rows:
            atoms.update(yes + no)

    collect(costs)
    for kind, head, body in rules:
        if kind != "deny":
            atoms.add(head)
        for condition in body:
            if condition[0] in ("yes", "no"):
                atoms.add(condition[1])
            else:
                collect(condition[2])
    listed = sorted(atoms, key=lambda atom: (atom[0], len(atom[1]), [place(one) for one in atom[1]]))

    def numbered(rows):
        return [(weight, tuple(map(listed.index, yes)), tuple(map(listed.index, no))) for weight, yes, no in rows]

    return ("program", listed, [
        (kind, None if kind == "deny" else listed.index(head), [
            (one[0], listed.index(one[1])) if len(one) == 2 else (one[0], one[1], numbered(one[2])) for one in body
        ]) for kind, head, body in rules
    ], numbered(costs))


def substitutions_of(statement, many):
    """Return the number of point 12."""
    names = globals_of(statement)
    return many ** len(names) * (1 + sum(many ** len(locals_of(part, names)) for part in parts_of(statement)))


def count_rows(rules):
    return sum(len(condition[2]) for rule in rules for condition in rule[2] if condition[0] in ("least", "below"))


def yes_atoms(rule):
    return [condition[1] for condition in rule[2] if condition[0] == "yes"]


def possible(rules):
    """Return the set of the possible atoms."""
    found = set()
    while True:
        more = {rule[1] for rule in rules if rule[0] != "deny" and found.issuperset(yes_atoms(rule))}
        if more == found:
            return found
        found = more


def rules_that_matter(statements):
    rules = plain_rules(statements)[0]
    found = possible(rules)
    return [rule for rule in rules if found.issuperset(yes_atoms(rule))]


def weight_of(rows, some, none):
    """Add up the weights of the rows whose yes atoms are all in `some`, and whose no atoms are all not in `none`."""
    return sum(weight for weight, yes, no in rows if set(yes) <= set(some) and not set(no) & set(none))


def holds_in(condition, candidate):
    kind = condition[0]
    if kind in ("yes", "no"):
        return (condition[1] in candidate) == (kind == "yes")
    return (weight_of(condition[2], candidate, candidate) >= condition[1]) == (kind == "least")


def supported(body, founded, candidate):
    for condition in body:
        if condition[0] == "yes":
            fits = condition[1] in founded
        elif condition[0] == "least":
            fits = weight_of(condition[2], founded, candidate) >= condition[1]
        else:
            fits = holds_in(condition, candidate)
        if not fits:
            return False
    return True


def subsets(atoms):
    return [list(found) for many in range(len(atoms) + 1) for found in itertools.combinations(atoms, many)]


def derived(program, candidate):
    """Return the set of point 15 by trying all sets of atoms."""
    rules = [rule for rule in program[2] if rule[0] == "rule" or (rule[0] == "choose" and rule[1] in candidate)]
    closed = [
        found for found in subsets(range(len(program[1])))
        if all(head in found for _, head, body in rules if supported(body, found, candidate))
    ]
    smallest = closed[0]
    assert all(set(smallest) <= set(found) for found in closed)
    return smallest


def is_stable(program, candidate):
    denied = any(rule[0] == "deny" and all(holds_in(one, candidate) for one in rule[2]) for rule in program[2])
    return candidate == derived(program, candidate) and not denied


def sure_and_possible(rows, values):
    """Return the weights of the rows that surely count and of those that may count, added up."""
    sure = possible_weight = 0
    for weight, yes, no in rows:
        literals = [values[atom] for atom in yes] + [None if values[atom] is None else not values[atom] for atom in no]
        sure += weight * (set(literals) <= {True})
        possible_weight += weight * (False not in literals)
    return sure, possible_weight


def surely(condition, values):
    """Return whether a condition surely holds, and whether it surely fails."""
    kind = condition[0]
    if kind in ("yes", "no"):
        found = values[condition[1]]
        return (found is (kind == "yes"), found is (kind == "no"))
    sure, possible_weight = sure_and_possible(condition[2], values)
    if kind == "least":
        return (sure >= condition[1], possible_weight < condition[1])
    return (possible_weight < condition[1], sure >= condition[1])


def random_rows(chooser, many):
    rows = []
    for _ in range(chooser.randint(0, 3)):
        yes, no = [tuple(chooser.choices(range(many), k=chooser.choice([0, 0, 1, 1, 2]))) for _ in range(2)]
        rows.append((chooser.choice([0, 1, 1, 2, 3]), yes, no))
    return rows


def random_plain_condition(chooser, many):
    kind = chooser.choice(["yes", "yes", "yes", "no", "no", "least", "below"])
    if kind in ("yes", "no"):
        return (kind, chooser.randrange(many))
    return (kind, chooser.randint(-1, 4), random_rows(chooser, many))


def random_body(chooser, many, most=3):
    return [random_plain_condition(chooser, many) for _ in range(chooser.choice(range(most + 1)))]


def random_program(chooser, many=4):
    """Return a random program, with conditions in any order, and perhaps with atoms that occur in no rule."""
    rules = []
    for _ in range(chooser.randint(0, 7)):
        kind = chooser.choice(["rule", "rule", "rule", "choose", "choose", "deny"])
        head = None if kind == "deny" else chooser.randrange(many)
        rules.append((kind, head, random_body(chooser, many)))
    return ("program", [(name, ()) for name in "abcdefgh"[:many]], rules, random_rows(chooser, many))


def random_term(chooser, names, depth=2):
    """Return a random term; operations in it are in brackets, as it may stand as an operand."""
    if depth and chooser.random() < 0.25:
        left, right = random_term(chooser, names, depth - 1), random_term(chooser, names, depth - 1)
        return f"({left} {chooser.choice('+-*')} {right})"
    return chooser.choice(names * 2 + ["0", "1", "2", "a", "b"])


def random_atom(chooser, names):
    name = chooser.choice("pqrs")
    terms = [random_term(chooser, names) for _ in range({"p": 0, "q": 1, "r": 1, "s": 2}[name])]
    return f"{name}({', '.join(terms)})" if terms else name


def random_condition(chooser, names):
    kind = chooser.random()
    if kind < 0.55:
        return random_atom(chooser, names)
    if kind < 0.75:
        return f"not {random_atom(chooser, names)}"
    sign = chooser.choice(["=", "=", "!=", "<", "<=", ">", ">="])
    return f"{random_term(chooser, names)} {sign} {random_term(chooser, names)}"


def behind(chooser, written, names):
    """Return a choice or member with or without conditions."""
    many = chooser.choice([0, 0, 1, 1, 2])
    conditions = [random_condition(chooser, names) for _ in range(many)]
    return f"{written} : {', '.join(conditions)}" if conditions else written


def random_members(chooser, names):
    members = []
    for _ in range(chooser.randint(1, 2)):
        weight = chooser.choice(["1", "2", "999", "1000", "0 - 1", "a", random_term(chooser, names)])
        members.append(behind(chooser, weight, names))
    return "{" + "; ".join(members) + "}"


def random_part(chooser, names, more):
    if chooser.random() < 0.2:
        sign = chooser.choice(["<=", ">="])
        return f"sum {random_members(chooser, names + more)} {sign} {random_term(chooser, names)}"
    return random_condition(chooser, names)


def random_statement(chooser):
    """Return a random statement with few variables."""
    kind = chooser.random()
    names = chooser.choice([[], ["X"], ["X"], ["X", "Y"]])
    more = chooser.choice([[], ["Z"]])
    if kind < 0.05:
        return f"range {chooser.randint(0, 3)} {chooser.randint(0, 3)}."
    if kind < 0.15:
        return f"minimize {random_members(chooser, more + ['Y'])}."
    parts = [random_part(chooser, names, more) for _ in range(chooser.choice([0, 0, 1, 1, 2, 3]))]
    written = f" :- {', '.join(parts)}" if parts else ""
    if kind < 0.65:
        return f"{random_atom(chooser, names)}{written}."
    if kind < 0.75:
        return f"{written or ' :- p'}."
    choices = [behind(chooser, random_atom(chooser, names + more), names + more) for _ in range(chooser.randint(1, 2))]
    low, high = chooser.choice(["", "0 ", "1 "]), chooser.choice(["", " 1", " 2"])
    return f"{low}{{{'; '.join(choices)}}}{high}{written}."


def random_text(chooser):
    return " ".join(random_statement(chooser) for _ in range(chooser.randint(1, 7)))
