"""In which steps the variables of a rule get constants when its conditions are matched with atoms.

Each step has what it deals with as its second item:
- ("test", comparison): all variables of the comparison are known;
- ("solve", comparison, side, other): of an equation one side is known, and the other one has one unknown variable;
- ("atom", atom, ready, order): the atom is matched; `ready` are the places of its terms whose variables are known,
  and `order` are all places, in the order in which they are matched;
- ("try", name): a variable gets each constant.
"""

from stablepapers.variables import atom_variables, condition_variables, term_variables, without


def solving_step(comparison, known):
    """Return the step that solves a comparison, or None."""
    _, sign, left, right = comparison
    if sign == "=":
        for side, other in ((left, right), (right, left)):
            if len(without(term_variables(side), known)) == 1 and not without(term_variables(other), known):
                return ("solve", comparison, side, other)
    return None


def ready_places(atom, known):
    """Return the places of the terms of an atom whose variables are known."""
    return [place for place, term in enumerate(atom[2]) if not without(term_variables(term), known)]


def matching_order(atom, known):
    """Return the places of the terms of an atom: first those that need no solving, last those with most unknowns."""
    keys = [
        (term[0] == "op", len(without(term_variables(term), known)), place) for place, term in enumerate(atom[2])
    ]
    return [key[2] for key in sorted(keys)]


def atom_step(atom, known):
    return ("atom", atom, ready_places(atom, known), matching_order(atom, known))


def matching_cost(atom, known):
    """Return a key that is low for an atom that is matched with few tries and few of the atoms found so far."""
    terms = atom[2]
    unknown = without(atom_variables(atom), known)
    plain = [term[1] for term in terms if term[0] == "var"]
    ready = len(ready_places(atom, known))
    if ready == len(terms):
        width = 0
    elif ready > 0:
        width = 1
    else:
        width = 2
    return (len(without(unknown, plain)), width, len(unknown))


def next_step(atoms, comparisons, wanted, known):
    """Return the next step for what is left of the conditions, or None."""
    for comparison in comparisons:
        if not without(condition_variables(comparison), known):
            return ("test", comparison)
    for comparison in comparisons:
        step = solving_step(comparison, known)
        if step is not None:
            return step
    if atoms:
        return atom_step(min(atoms, key=lambda atom: matching_cost(atom, known)), known)
    unknown = without(wanted, known)
    if unknown:
        return ("try", unknown[0])
    return None


def step_variables(step):
    """Return the variables that are known after a step."""
    if step[0] == "try":
        return [step[1]]
    if step[0] == "atom":
        return atom_variables(step[1])
    return condition_variables(step[1])


def plan(atoms, comparisons, wanted, known):
    """Return the steps that match all atoms and comparisons and give all wanted variables a constant.

    The list `known` has the variables that have one before.
    """
    steps = []
    step = next_step(atoms, comparisons, wanted, known)
    while step is not None:
        steps.append(step)
        done = step[1]
        known = known + step_variables(step)
        atoms = [atom for atom in atoms if atom != done]
        comparisons = [comparison for comparison in comparisons if comparison != done]
        step = next_step(atoms, comparisons, wanted, known)
    return steps
