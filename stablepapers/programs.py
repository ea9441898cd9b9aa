"""The program of a list of statements: its plain rules with numbers in the place of atoms."""

from stablepapers.errors import LimitError
from stablepapers.plain import plain_rules
from stablepapers.terms import rank

MOST_ATOMS = 200


def atom_rank(atom):
    """Return a key by which atoms are ordered."""
    name, constants = atom
    return (name, len(constants), [rank(constant) for constant in constants])


def rows_atoms(rows):
    return [atom for _, yes, no in rows for atom in yes + no]


def condition_atoms(condition):
    if condition[0] in ("yes", "no"):
        return [condition[1]]
    return rows_atoms(condition[2])


def rule_atoms(rule):
    kind, head, body = rule
    found = [atom for condition in body for atom in condition_atoms(condition)]
    if kind != "deny":
        found.append(head)
    return found


def all_atoms(rules, costs):
    """Return the list of the atoms of plain rules and cost rows, in order."""
    found = {atom: True for rule in rules for atom in rule_atoms(rule)}
    for atom in rows_atoms(costs):
        found[atom] = True
    return sorted(found, key=atom_rank)


def numbered_rows(rows, numbers):
    return [
        (weight, tuple([numbers[atom] for atom in yes]), tuple([numbers[atom] for atom in no]))
        for weight, yes, no in rows
    ]


def numbered_condition(condition, numbers):
    if condition[0] in ("yes", "no"):
        return (condition[0], numbers[condition[1]])
    kind, bound, rows = condition
    return (kind, bound, numbered_rows(rows, numbers))


def numbered_rule(rule, numbers):
    kind, head, body = rule
    conditions = [numbered_condition(condition, numbers) for condition in body]
    if kind == "deny":
        return (kind, None, conditions)
    return (kind, numbers[head], conditions)


def ground(statements):
    """Return the program of a list of statements."""
    rules, costs = plain_rules(statements)
    atoms = all_atoms(rules, costs)
    if len(atoms) > MOST_ATOMS:
        raise LimitError(f"there are more than {MOST_ATOMS} atoms")
    numbers = {atom: number for number, atom in enumerate(atoms)}
    return ("program", atoms, [numbered_rule(rule, numbers) for rule in rules], numbered_rows(costs, numbers))


def copied_body(body):
    """Return a body with lists of its own."""
    return [
        condition if condition[0] in ("yes", "no") else (condition[0], condition[1], list(condition[2]))
        for condition in body
    ]


def with_denials(program, bodies):
    """Return a program with one deny appended for each body, in order."""
    _, atoms, rules, costs = program
    found = [(kind, head, copied_body(body)) for kind, head, body in rules]
    found.extend([("deny", None, copied_body(body)) for body in bodies])
    return ("program", list(atoms), found, list(costs))
