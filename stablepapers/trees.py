"""The written form of terms, atoms, conditions and statements.

They are tuples whose first item names their form, as DOC.md lists them.
"""


def format_term(term):
    """Return the written form of a term."""
    if term[0] == "int":
        return str(term[1])
    if term[0] != "op":
        return term[1]
    _, sign, left, right = term
    first = format_term(left)
    if sign == "*" and left[0] == "op" and left[1] != "*":
        first = f"({first})"
    second = format_term(right)
    if right[0] == "op":
        second = f"({second})"
    return f"{first} {sign} {second}"


def format_atom(atom):
    """Return the written form of an atom."""
    _, name, terms = atom
    if not terms:
        return name
    written = ", ".join([format_term(term) for term in terms])
    return f"{name}({written})"


def format_condition(condition):
    """Return the written form of a condition."""
    if condition[0] == "yes":
        return format_atom(condition[1])
    if condition[0] == "no":
        return f"not {format_atom(condition[1])}"
    _, sign, left, right = condition
    return f"{format_term(left)} {sign} {format_term(right)}"


def with_conditions(written, conditions):
    """Return a written atom or term with the conditions of its choice or member behind it."""
    if not conditions:
        return written
    listed = ", ".join([format_condition(condition) for condition in conditions])
    return f"{written} : {listed}"


def format_choices(choices):
    """Return the written form of a list of choices, with its braces."""
    parts = [with_conditions(format_atom(atom), conditions) for _, atom, conditions in choices]
    return "{" + "; ".join(parts) + "}"


def format_members(members):
    """Return the written form of a list of members, with its braces."""
    parts = [with_conditions(format_term(term), conditions) for _, term, conditions in members]
    return "{" + "; ".join(parts) + "}"


def format_part(part):
    """Return the written form of a part of a body: a condition or a sum."""
    if part[0] != "sum":
        return format_condition(part)
    _, sign, members, bound = part
    return f"sum {format_members(members)} {sign} {format_term(bound)}"


def format_body(body):
    """Return the written form of a body with the sign before it."""
    return ":- " + ", ".join([format_part(part) for part in body])


def with_body(head, body):
    """Return a written head with its body behind it."""
    if not body:
        return f"{head}."
    return f"{head} {format_body(body)}."


def format_choose_head(low, choices, high):
    """Return the written form of the choices of a choose statement with their bounds."""
    written = format_choices(choices)
    if low is not None:
        written = f"{low} {written}"
    if high is not None:
        written = f"{written} {high}"
    return written


def format_statement(statement):
    """Return the written form of a statement."""
    kind = statement[0]
    if kind == "rule":
        _, atom, body = statement
        return with_body(format_atom(atom), body)
    if kind == "deny":
        return f"{format_body(statement[1])}."
    if kind == "choose":
        _, low, choices, high, body = statement
        return with_body(format_choose_head(low, choices, high), body)
    if kind == "range":
        _, low, high = statement
        return f"range {low} {high}."
    return f"minimize {format_members(statement[1])}."


def format_text(statements):
    """Return the written form of a list of statements, one in each line."""
    return "".join([f"{format_statement(statement)}\n" for statement in statements])
