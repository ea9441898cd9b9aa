"""The plain rules and cost rows of a list of statements."""

from stablepapers.errors import LimitError
from stablepapers.terms import atom_instance, conditions_instance, substitutions, value
from stablepapers.universe import universe
from stablepapers.variables import atom_variables, condition_variables, conditions_variables
from stablepapers.variables import distinct, term_variables, without

MOST_SUBSTITUTIONS = 20000
MOST_RULES = 2000
MOST_ROWS = 6000
GREATEST_WEIGHT = 999


def head_of(statement):
    """Return the head atom of a statement, or None."""
    if statement[0] == "rule":
        return statement[1]
    return None


def body_of(statement):
    """Return the body of a statement; a range and a minimize statement have none."""
    if statement[0] in ("rule", "deny", "choose"):
        return statement[-1]
    return []


def conditions_of(body):
    """Return the conditions of a body without its sums."""
    return [part for part in body if part[0] != "sum"]


def sums_of(body):
    return [part for part in body if part[0] == "sum"]


def parts_of(statement):
    """Return the choices and members of a statement."""
    members = [member for _, _, members, _ in sums_of(body_of(statement)) for member in members]
    if statement[0] == "choose":
        return statement[2] + members
    if statement[0] == "minimize":
        return statement[1] + members
    return members


def global_variables(statement):
    """Return the global variables of a statement, in order."""
    head = head_of(statement)
    names = []
    if head is not None:
        names.extend(atom_variables(head))
    for part in body_of(statement):
        if part[0] == "sum":
            names.extend(term_variables(part[3]))
        else:
            names.extend(condition_variables(part))
    return distinct(names)


def local_variables(part, names):
    """Return the variables of a choice or member that are not in a list, in order."""
    kind, first, conditions = part
    if kind == "choice":
        own = atom_variables(first)
    else:
        own = term_variables(first)
    return without(own + conditions_variables(conditions), names)


def power(base, exponent):
    result = 1
    for _ in range(exponent):
        result = result * base
    return result


def count_substitutions(statement, many):
    """Return how many substitutions a statement has in a universe of `many` constants."""
    names = global_variables(statement)
    counts = [power(many, len(local_variables(part, names))) for part in parts_of(statement)]
    return power(many, len(names)) * (1 + sum(counts))


def part_instances(parts, names, constants):
    """Return the pairs of a choice or member and a substitution that also has its local variables, in order."""
    return [
        (part, extended)
        for part in parts
        for extended in substitutions(names, local_variables(part, names), constants)
    ]


def row_of(member, names, constants):
    """Return the row of a member under a substitution of all its variables, or None."""
    _, term, conditions = member
    found = conditions_instance(conditions, names, constants)
    weight = value(term, names)
    if found is None or not isinstance(weight, int):
        return None
    if weight < 0 or weight > GREATEST_WEIGHT:
        return None
    return (weight, found[0], found[1])


def rows_of(members, names, constants):
    """Return the rows of a list of members under a substitution of the global variables."""
    rows = [row_of(member, extended, constants) for member, extended in part_instances(members, names, constants)]
    return [row for row in rows if row is not None]


def bounds_fit(body, names):
    """Return whether the bounds of the sums of a body have integer values."""
    return all(isinstance(value(bound, names), int) for _, _, _, bound in sums_of(body))


def plain_sum(part, names, constants):
    """Return the condition of a sum whose bound has an integer value."""
    _, sign, members, bound = part
    rows = rows_of(members, names, constants)
    if sign == ">=":
        return ("least", value(bound, names), rows)
    return ("below", value(bound, names) + 1, rows)


def atom_conditions(found):
    """Return the plain conditions of an instance of a list of conditions."""
    yes, no = found
    return [("yes", atom) for atom in yes] + [("no", atom) for atom in no]


def plain_body(body, names, constants):
    """Return the plain instance of a body under a substitution of the global variables, or None."""
    found = conditions_instance(conditions_of(body), names, constants)
    if found is None or not bounds_fit(body, names):
        return None
    return atom_conditions(found) + [plain_sum(part, names, constants) for part in sums_of(body)]


def choice_instance(choice, names, constants):
    """Return a choice's atom and the instance of its conditions under a substitution, or None."""
    atom = atom_instance(choice[1], names, constants)
    found = conditions_instance(choice[2], names, constants)
    if atom is None or found is None:
        return None
    return (atom, found)


def choice_instances(choices, names, constants):
    """Return the instances of all choices under a substitution of the global variables, in order."""
    found = [choice_instance(choice, extended, constants)
             for choice, extended in part_instances(choices, names, constants)]
    return [instance for instance in found if instance is not None]


def chosen_rule(instance, body):
    """Return the plain rule of an instance of a choice."""
    atom, found = instance
    return ("choose", atom, body + atom_conditions(found))


def bound_rules(statement, instances, body):
    """Return the plain rules of the bounds of a choose statement, from the instances of all its choices."""
    _, low, _, high, _ = statement
    rows = [(1, (atom, *yes), no) for atom, (yes, no) in instances]
    rules = []
    if low is not None:
        rules.append(("deny", None, body + [("below", low, list(rows))]))
    if high is not None:
        rules.append(("deny", None, body + [("least", high + 1, list(rows))]))
    return rules


def instance_rules(statement, names, constants):
    """Return the plain rules of a statement under a substitution of its global variables."""
    kind = statement[0]
    head = head_of(statement)
    atom = None
    if head is not None:
        atom = atom_instance(head, names, constants)
        if atom is None:
            return []
    body = plain_body(body_of(statement), names, constants)
    if body is None:
        return []
    if kind != "choose":
        return [(kind, atom, body)]
    instances = choice_instances(statement[2], names, constants)
    return [chosen_rule(instance, body) for instance in instances] + bound_rules(statement, instances, body)


def statement_rules(statement, constants):
    """Return the plain rules of a statement."""
    if statement[0] in ("range", "minimize"):
        return []
    rules = []
    for names in substitutions({}, global_variables(statement), constants):
        rules.extend(instance_rules(statement, names, constants))
    return rules


def count_rows(rules):
    """Return how many rows the bodies of a list of plain rules have."""
    return sum(len(condition[2]) for _, _, body in rules for condition in body if condition[0] in ("least", "below"))


def check_limits(rules, costs):
    if len(rules) > MOST_RULES:
        raise LimitError(f"there are more than {MOST_RULES} plain rules")
    if count_rows(rules) + len(costs) > MOST_ROWS:
        raise LimitError(f"there are more than {MOST_ROWS} rows")


def plain_rules(statements):
    """Return the pair of the plain rules and the cost rows of a list of statements."""
    constants = {constant: True for constant in universe(statements)}
    # This stands before all else, as a text beyond the limit may have too many substitutions to go through.
    if sum(count_substitutions(statement, len(constants)) for statement in statements) > MOST_SUBSTITUTIONS:
        raise LimitError(f"there are more than {MOST_SUBSTITUTIONS} substitutions")
    rules, costs = [], []
    for statement in statements:
        rules.extend(statement_rules(statement, constants))
        if statement[0] == "minimize":
            costs.extend(rows_of(statement[1], {}, constants))
    check_limits(rules, costs)
    return (rules, costs)
