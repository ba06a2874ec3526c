"""Stage 3: how many trees of a size there are, each one by its number, and the sizes that trees have."""

from madesure.errors import NoNumber, NoTree
from madesure.kinds.kinds import MARK, check_kind, maker_table
from madesure.trees.trees import check_tree, nodes_of
from madesure.whole import is_number_to, is_whole

MARKS = 1
MOST_SIZE = 200
MOST_MARKS = 10 ** 6


def many_trees(kinds, kind, size, *, marks=MARKS):
    """Tell how many trees of a kind there are of a size, marked below marks."""
    check_kind(kinds, kind)
    _check_number(size, MOST_SIZE)
    _check_number(marks, MOST_MARKS)
    return Tally(kinds, size, marks).trees[kind][size]


def tree_at(kinds, kind, size, number, *, marks=MARKS):
    """Tell the tree of a kind that has a number among those of a size, marked below marks, in order."""
    check_kind(kinds, kind)
    _check_number(size, MOST_SIZE)
    tally = Tally(kinds, size, _marks_to_look_at(marks))
    _check_number(number, tally.trees[kind][size] - 1)
    _check_number(marks, MOST_MARKS)
    return tree_in(tally, kind, size, number)


def number_of(kinds, kind, tree, *, marks=MARKS):
    """Tell the number of a tree of a kind among those of its size, marked below marks, in order."""
    check_tree(kinds, kind, tree)
    nodes = nodes_of(tree)
    most = _marks_to_look_at(marks)
    if not all([isinstance(node, tuple) or node < most for node in nodes]):
        raise NoTree("this tree has other marks")
    _check_number(marks, MOST_MARKS)
    return _number_by_nodes(Tally(kinds, len(nodes), marks), nodes)


def sizes_of(kinds, kind, *, most=40):
    """Tell the sizes to most that trees of a kind have, rising."""
    check_kind(kinds, kind)
    _check_number(most, MOST_SIZE)
    bits = size_bits(kinds, most)[kind]
    return tuple([size for size in range(most + 1) if (bits >> size) & 1])


def size_bits(kinds, most):
    """Tell for mark and each kind a number whose bit at a size to most is 1 where a tree has that size."""
    bits = {MARK: 1 << 1}
    # The same bits the other way about, a size's at most less it: see _are_together.
    turned = {MARK: (1 << most) >> 1}
    for kind, _ in kinds:
        bits[kind] = turned[kind] = 0
    rests = {parts[at:]: 0 for _, makers in kinds for _, parts in makers for at in range(len(parts))}
    rows = sorted(rests, key=len)
    rests[()] = 1
    for size in range(1, most + 1):
        for parts in rows:
            if _are_together(turned[parts[0]] >> (most - size + 1), rests[parts[1:]]):
                rests[parts] |= 1 << (size - 1)
        for kind, makers in kinds:
            if any([(rests[parts] >> (size - 1)) & 1 for _, parts in makers]):
                bits[kind] |= 1 << size
                turned[kind] |= 1 << (most - size)
    return bits


def _are_together(turned, rest):
    """Tell whether there are two sizes with a sum, by the bits of the one counted down from it, of the other up."""
    return turned & rest != 0


def tree_in(tally, kind, size, number):
    """Tell the tree of a kind that has a number among those of a size that are tallied."""
    return _tree_by_heads(tally.makers, _heads_at(tally, kind, size, number))


class Tally:
    """How many trees marked below marks each kind has of each size to most, and each row of parts together.

    trees has for each kind a row, with the number of trees at the size; rests has for each maker
    and each of its parts such a row for that part and those behind it together, and one for none.
    """

    def __init__(self, kinds, most, marks):
        self.kinds = dict(kinds)
        self.makers = maker_table(kinds)
        self.trees = {kind: [0] for kind in self.kinds}
        self.trees[MARK] = [0, marks] + [0] * most
        self.rests = {maker: [[0] for _ in made[2]] + [[1]] for maker, made in self.makers.items()}
        for size in range(1, most + 1):
            self._go_on_to(size)

    def _go_on_to(self, size):
        for kind, makers in self.kinds.items():
            self.trees[kind].append(sum([self.rests[maker][0][size - 1] for maker, _ in makers]))
        for maker, made in self.makers.items():
            rests = self.rests[maker]
            rests[-1].append(0)
            for at in reversed(range(len(made[2]))):
                rests[at].append(_many_together(self.trees[made[2][at]], rests[at + 1], size))


def _many_together(own, rest, size):
    """Tell how many pairs of one of own and one of rest have a size together."""
    return sum([first * second for first, second in zip(own[1:size + 1], rest[size - 1::-1])])


def _marks_to_look_at(marks):
    """Tell the marks; where there are none such, the most there can be.

    What there isn't by any marks is refused ahead of marks, which are handed in behind it.
    """
    return marks if is_number_to(marks, MOST_MARKS) else MOST_MARKS


def _heads_at(tally, kind, size, number):
    """Tell the makers and marks of the tree with a number, each maker ahead of its parts."""
    heads = []
    waiting = [(kind, size, number)]
    while waiting:
        kind_here, own, left = waiting.pop()
        if kind_here == MARK:
            heads.append(left)
        else:
            maker, left = _maker_at(tally, kind_here, own, left)
            heads.append(maker)
            waiting.extend(_parts_at(tally, maker, own - 1, left)[::-1])
    return heads


def _maker_at(tally, kind, size, number):
    """Tell the maker of the tree with a number, and its number among those of that maker."""
    left = number
    for maker, _ in tally.kinds[kind]:
        many = tally.rests[maker][0][size - 1]
        if left < many:
            return maker, left
        left -= many
    raise NoNumber(number)


def _parts_at(tally, maker, size, number):
    """Tell the (kind, size, number) of each part of the tree with a number among those of its maker."""
    rows = []
    behind = size
    left = number
    for at, part in enumerate(tally.makers[maker][2]):
        own = 1
        rest = tally.rests[maker][at + 1]
        while left >= tally.trees[part][own] * rest[behind - own]:
            left -= tally.trees[part][own] * rest[behind - own]
            own += 1
        behind -= own
        first, left = divmod(left, rest[behind])
        rows.append((part, own, first))
    return rows


def _tree_by_heads(makers, heads):
    """Make the tree of its makers and marks, each maker ahead of its parts."""
    trees = []
    for head in reversed(heads):
        if is_whole(head):
            trees.append(head)
        else:
            parts = [trees.pop() for _ in makers[head][2]]
            trees.append((head, *parts))
    return trees.pop()


def _number_by_nodes(tally, nodes):
    """Tell the number of a tree by all trees in it, each ahead of its parts."""
    done = []
    for node in reversed(nodes):
        if is_whole(node):
            done.append((1, node))
        else:
            parts = [done.pop() for _ in node[1:]]
            done.append(_number_made(tally, node[0], parts))
    return done.pop()[1]


def _number_made(tally, maker, parts):
    """Tell the size and the number of a tree by its maker and the (size, number) of its parts."""
    kind, place, wanted = tally.makers[maker]
    behind = sum([size for size, _ in parts])
    told = sum([tally.rests[ahead][0][behind] for ahead, _ in tally.kinds[kind][:place]])
    total = behind + 1
    for at, (size, number) in enumerate(parts):
        rest = tally.rests[maker][at + 1]
        own = tally.trees[wanted[at]]
        told += sum([own[less] * rest[behind - less] for less in range(1, size)])
        behind -= size
        told += number * rest[behind]
    return total, told


def _check_number(thing, most):
    """Refuse what is no whole number from 0 to most."""
    if not is_number_to(thing, most):
        raise NoNumber(thing)
