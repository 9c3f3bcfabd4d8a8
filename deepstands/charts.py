"""Charts: whether a thing is one, and what its stands are to one another."""

from deepstands.checks import looked_over
from deepstands.errors import NoChart, NoMove, NoName
from deepstands.kinds import is_whole, own


def chart_wrong(thing):
    """None where the thing is a chart, else the first that is wrong with it."""
    return looked_over(thing)[0]


def tree_of(chart):
    """The stands of a chart; what is no chart is refused."""
    wrong, tree = looked_over(chart)
    if wrong is not None:
        raise NoChart(wrong)
    return tree


def known(tree, name):
    """The number of the stand of this name, which must be one's."""
    if not tree.knows(name):
        raise NoName(own(name))
    return tree.numbers[name]


def names_of(chart):
    """The names of the stands, in the chart's order."""
    return tree_of(chart).names


def parent_of(chart, name):
    """The stand that the named one stands straight in, None of the root."""
    tree = tree_of(chart)
    above = tree.above[known(tree, name)]
    return None if above is None else tree.names[above]


def sort_of(chart, name):
    """The sort of the named stand."""
    tree = tree_of(chart)
    return tree.stands[known(tree, name)][1]


def within(chart, one, other):
    """Whether the second stands properly in the first."""
    tree = tree_of(chart)
    return tree.has(known(tree, one), known(tree, other))


def room_of(chart, name, move):
    """The room of a stand's move by its number, None of a move without goals."""
    tree = tree_of(chart)
    number = known(tree, name)
    moves = tree.stands[number][5]
    if not is_whole(move) or not 0 <= move < len(moves):
        raise NoMove(own(move))
    goals = [tree.numbers[goal] for goal in moves[move][3]]
    return tree.names[tree.least_room(number, goals)] if goals else None
