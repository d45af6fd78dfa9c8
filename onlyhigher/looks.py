"""How few cells have to be looked at to tell what a state reads."""

from onlyhigher.cards import is_state, states
from onlyhigher.codes import label
from onlyhigher.values import is_integer, is_value


def look_error(code, value):
    """Return None for a right look tree for the code, otherwise the first fault of value."""
    if not is_tree(value):
        return "form"
    card, labels = code
    way = wrong_cell(card, value, (), ())
    if way is not None:
        return ("cell", way)
    for state, reading in zip(states(card), labels):
        if reading_in(value, state) != reading:
            return ("label", state)
    return None


def is_tree(value):
    """Tell whether value has the form of a look tree, of whatever card."""
    if not isinstance(value, tuple):
        return False
    if len(value) == 2:
        return value[0] == "read" and (value[1] is None or is_value(value[1]))
    if len(value) != 3 or value[0] != "look" or not is_integer(value[1]) or not isinstance(value[2], tuple):
        return False
    return all([is_tree(tree) for tree in value[2]])


def wrong_cell(card, tree, way, looked):
    """Return the first way to a look at a wrong cell, or with a wrong number of trees; None if there is none.

    tree is what way leads to, looked the cells that are looked at on it.
    """
    if tree[0] == "read":
        return None
    _, cell, trees = tree
    if not 0 <= cell < len(card) or cell in looked or len(trees) != card[cell] + 1:
        return way
    for level, further in enumerate(trees):
        found = wrong_cell(card, further, way + (level,), looked + (cell,))
        if found is not None:
            return found
    return None


def reading_in(tree, state):
    """Return the reading of the read to which the state comes."""
    while tree[0] == "look":
        tree = tree[2][state[tree[1]]]
    return tree[1]


def depth(tree):
    """Return the greatest number of looks on a way."""
    if tree[0] == "read":
        return 0
    return 1 + max([depth(further) for further in tree[2]])


# In what follows the answers so far are told as a tuple with an item for each cell: its level, None if it is not
# looked at yet.


def least_looks(code):
    """Return the least depth of a right look tree."""
    return looks_needed(code)[no_answers(code)][0]


def no_answers(code):
    return (None,) * len(code[0])


def told(answers, cell, level):
    return answers[:cell] + (level,) + answers[cell + 1:]


def looks_needed(code):
    """Return a dict: for all answers a pair of the least number of looks behind them, and what to look at first.

    Where no look is needed, the second item is the reading instead of a cell.
    """
    card, labels = code
    found = {}
    for state, reading in zip(states(card), labels):
        found[state] = (0, reading)
    # None stands behind the levels, so answers with one more level stand ahead of those without it.
    for answers in states(tuple([top + 1 for top in card])):
        row = tuple([None if level > top else level for top, level in zip(card, answers)])
        if None in row:
            found[row] = best_look(card, found, row)
    return found


def best_look(card, found, answers):
    """Return the pair of looks_needed for answers that leave a cell open; those with one more are in found."""
    rows = []
    for cell, level in enumerate(answers):
        if level is None:
            behind = [found[told(answers, cell, answer)] for answer in range(card[cell] + 1)]
            worst = max([pair[0] for pair in behind])
            if worst == 0 and all([pair == behind[0] for pair in behind]):
                return behind[0]
            rows.append((1 + worst, cell))
    return min(rows)


def look_tree(code):
    """Return a right look tree of the least depth."""
    return tree_behind(code[0], looks_needed(code), no_answers(code))


def tree_behind(card, needed, answers):
    many, what = needed[answers]
    if many == 0:
        return ("read", what)
    return ("look", what, tuple([
        tree_behind(card, needed, told(answers, what, level)) for level in range(card[what] + 1)
    ]))


def look_foe(code, most):
    """Return a foe's tree for the code and most, None if so many looks are enough."""
    needed, answers = looks_needed(code), no_answers(code)
    if needed[answers][0] <= most:
        return None
    return foe_behind(code, needed, most, answers)


def foe_behind(code, needed, many, answers):
    """Return a foe's tree for so many looks behind answers that leave more than these open."""
    card = code[0]
    if many == 0:
        return ("open",) + unlike_states(code, answers)
    pairs = []
    for cell, level in enumerate(answers):
        if level is None:
            # More looks than many are needed here, so at each cell some answer leaves as many as that.
            still = [at for at in range(card[cell] + 1) if needed[told(answers, cell, at)][0] >= many]
            pairs.append((still[0], foe_behind(code, needed, many - 1, told(answers, cell, still[0]))))
    return ("answers", tuple(pairs))


def unlike_states(code, answers):
    """Return the first two states that fit the answers and have unlike readings, the second one unlike the first."""
    fitting = [()]
    for top, level in zip(code[0], answers):
        levels = list(range(top + 1)) if level is None else [level]
        fitting = [row + (at,) for row in fitting for at in levels]
    readings = [label(code, state) for state in fitting]
    unlike = [state for state, reading in zip(fitting, readings) if reading != readings[0]]
    return (fitting[0], unlike[0])


def look_foe_holds(code, most, value):
    """Tell whether value is a foe's tree for the code and most."""
    return foe_holds(code, most, no_answers(code), value)


def foe_holds(code, many, answers, value):
    """Tell whether value is a foe's tree for so many looks behind the answers."""
    if not isinstance(value, tuple):
        return False
    if many == 0:
        return len(value) == 3 and value[0] == "open" and are_open(code, answers, value[1:])
    cells = [cell for cell, level in enumerate(answers) if level is None]
    if not cells or len(value) != 2 or value[0] != "answers":
        return False
    if not isinstance(value[1], tuple) or len(value[1]) != len(cells):
        return False
    return all([answer_holds(code, many, answers, cell, pair) for cell, pair in zip(cells, value[1])])


def answer_holds(code, many, answers, cell, value):
    """Tell whether value is a level of the cell, and a foe's tree for one look less behind this answer, too."""
    if not isinstance(value, tuple) or len(value) != 2:
        return False
    level, further = value
    if not is_integer(level) or not 0 <= level <= code[0][cell]:
        return False
    return foe_holds(code, many - 1, told(answers, cell, level), further)


def are_open(code, answers, pair):
    """Tell whether the two are states that fit the answers and have unlike readings."""
    if not all([is_state(code[0], state) and fits(answers, state) for state in pair]):
        return False
    return label(code, pair[0]) != label(code, pair[1])


def fits(answers, state):
    return all([level is None or level == at for level, at in zip(answers, state)])
