"""Stage 2: trees, their sizes, their order, the least ones, and parts.

Trees are walked by rows of what still waits, not by calls within calls: they may be far deeper
than those may go.
"""

from madesure.errors import NoNumber, NoTree
from madesure.kinds.kinds import MARK, check_kind, check_maker, least_sizes, maker_table, size_made
from madesure.whole import is_mark, is_whole


def is_tree(kinds, kind, thing):
    """Tell whether a thing is a tree of a kind."""
    check_kind(kinds, kind)
    table = maker_table(kinds)
    waiting = [(kind, thing)]
    while waiting:
        wanted, node = waiting.pop()
        if wanted == MARK:
            if not is_mark(node):
                return False
        elif not _is_made(table, wanted, node):
            return False
        else:
            waiting.extend(list(zip(table[node[0]][2], node[1:])))
    return True


def size_of(kinds, kind, tree):
    """Tell how many makers and marks are in a tree of a kind."""
    check_tree(kinds, kind, tree)
    return len(nodes_of(tree))


def least_tree(kinds, kind):
    """Tell the first tree of a kind in order."""
    check_kind(kinds, kind)
    return least_trees(kinds)[kind]


def is_ahead(kinds, kind, tree, other):
    """Tell whether a tree of a kind stands earlier in order than another one."""
    check_tree(kinds, kind, tree)
    check_tree(kinds, kind, other)
    table = maker_table(kinds)
    return order_rows(table, tree) < order_rows(table, other)


def part_of(kinds, maker, k, tree):
    """Tell the k-th part of a tree made by the maker, of another one the least tree of that part's kind."""
    check_maker(kinds, maker)
    kind, _, parts = maker_table(kinds)[maker]
    if not is_whole(k) or not 0 <= k < len(parts):
        raise NoNumber(k)
    check_tree(kinds, kind, tree)
    if tree[0] == maker:
        return tree[k + 1]
    return least_trees(kinds)[parts[k]]


def check_tree(kinds, kind, tree):
    """Refuse what is no kinds, then what is no kind of them, then what is no tree of that kind."""
    if not is_tree(kinds, kind, tree):
        raise NoTree("this is no tree of the kind")


def least_trees(kinds):
    """Tell the least tree of mark and of each kind."""
    sizes = least_sizes(kinds)
    trees = {MARK: 0}
    # The parts of a least tree are smaller than it is: by rising sizes they are there when needed.
    for kind, makers in sorted(kinds, key=lambda named: sizes[named[0]]):
        least = [named for named in makers if size_made(sizes, named[1]) == sizes[kind]]
        maker, parts = least[0]
        trees[kind] = (maker, *[trees[part] for part in parts])
    return trees


def nodes_of(tree):
    """Tell all trees in a tree, itself first: each ahead of its parts, and these from the left."""
    nodes = []
    waiting = [tree]
    while waiting:
        node = waiting.pop()
        nodes.append(node)
        if isinstance(node, tuple):
            waiting.extend(node[:0:-1])
    return nodes


def order_rows(table, tree):
    """Tell the size, and the maker's place or the mark, of each of the nodes of a tree.

    Of trees of one kind these rows compare as the trees do: up to where they first differ both
    have the same makers, so there the same part stands in both.
    """
    rows = []
    sizes = []
    for node in reversed(nodes_of(tree)):
        size = 1
        place = node
        if isinstance(node, tuple):
            place = table[node[0]][1]
            for _ in node[1:]:
                size += sizes.pop()
        sizes.append(size)
        rows.append((size, place))
    return rows[::-1]


def _is_made(table, kind, node):
    """Tell whether a thing is a row of a maker of the kind and as many things as the maker has parts."""
    if not isinstance(node, tuple) or not node or not isinstance(node[0], str):
        return False
    if node[0] not in table:
        return False
    made, _, parts = table[node[0]]
    return made == kind and len(node) == len(parts) + 1
