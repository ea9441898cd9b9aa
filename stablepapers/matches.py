"""Substitutions under which conditions have instances among the atoms found so far."""

from stablepapers.terms import comparison_holds, substitutions, value
from stablepapers.variables import term_variables, without


def left_values(sign, result, right):
    """Return the left operands that give an operation its result, as a list; None if any integer may be one."""
    if sign == "+":
        return [result - right]
    if sign == "-":
        return [result + right]
    if right == 0:
        return None
    if result % right == 0:
        return [result // right]
    return []


def right_values(sign, left, result):
    """Return the right operands that give an operation its result, as above."""
    if sign == "-":
        return [left - result]
    return left_values(sign, result, left)


def open_operand(term, result, names):
    """Return the only operand that has unknown variables, with its values as above; None if both have some."""
    _, sign, left, right = term
    if not without(term_variables(right), names):
        other = value(right, names)
        return (left, left_values(sign, result, other) if isinstance(other, int) else [])
    if not without(term_variables(left), names):
        other = value(left, names)
        return (right, right_values(sign, other, result) if isinstance(other, int) else [])
    return None


def solved_operation(term, result, names, constants):
    """Return the extensions of a substitution under which an operation has a value, by its unknown variables."""
    wanted = without(term_variables(term), names)
    if not wanted:
        return [names] if value(term, names) == result else []
    if not isinstance(result, int):
        return []
    operand = open_operand(term, result, names)
    if operand is None or operand[1] is None:
        return [more for more in substitutions(names, wanted, constants) if value(term, more) == result]
    return [more for number in operand[1] for more in solved(operand[0], number, names, constants)]


def solved(term, result, names, constants):
    """Return the extensions of a substitution under which a term has a value, by its unknown variables."""
    if term[0] == "op":
        return solved_operation(term, result, names, constants)
    if term[0] == "var" and term[1] not in names:
        return [{**names, term[1]: result}] if result in constants else []
    return [names] if value(term, names) == result else []


def matched(step, found, names, constants):
    """Return the extensions of a substitution under which the atom of a step is an atom that was found."""
    _, atom, _, order = step
    extensions = [names]
    for place in order:
        term, constant = atom[2][place], found[1][place]
        extensions = [more for known in extensions for more in solved(term, constant, known, constants)]
    return extensions


class Matches:
    """The atoms found so far, by their names and the constants in them."""

    def __init__(self, constants):
        self.constants = constants
        self.lists = {}

    def keep(self, atom):
        name, constants = atom
        many = len(constants)
        self.lists.setdefault((name, many), []).append(atom)
        for place, constant in enumerate(constants):
            self.lists.setdefault((name, many, place, constant), []).append(atom)

    def near(self, step, names):
        """Return the shortest list that has all atoms with which the atom of a step can be matched."""
        _, (_, name, terms), ready, _ = step
        many = len(terms)
        best = self.lists.get((name, many), [])
        for place in ready:
            other = self.lists.get((name, many, place, value(terms[place], names)), [])
            if len(other) < len(best):
                best = other
        return best

    def after_step(self, step, names):
        """Return the extensions of a substitution by a step."""
        if step[0] == "test":
            return [names] if comparison_holds(step[1], names) else []
        if step[0] == "try":
            return substitutions(names, [step[1]], self.constants)
        if step[0] == "solve":
            result = value(step[3], names)
            return [] if result is None else solved(step[2], result, names, self.constants)
        return [more for atom in self.near(step, names) for more in matched(step, atom, names, self.constants)]

    def after_steps(self, steps, names):
        """Return the extensions of a substitution by several steps."""
        found = [names]
        for step in steps:
            found = [more for known in found for more in self.after_step(step, known)]
        return found
