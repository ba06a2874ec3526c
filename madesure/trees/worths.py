"""Trees told by number: each one once, however often it stands, so that great ones are soon looked at."""

from madesure.trees.trees import nodes_of


class Worths:
    """By number: trees; sizes; depths, how many tuples stand within one another. What is still open has size 0."""

    def __init__(self):
        self.numbers = {}
        self.trees = []
        self.sizes = []
        self.depths = []

    def of_open(self, key):
        """Tell the number of what is still open and known by a key."""
        return self._number((None, (key,)), None, 0, 0)

    def of_mark(self, mark):
        """Tell the number of a mark."""
        return self._number((mark, ()), mark, 1, 0)

    def of_made(self, maker, own):
        """Tell the number of the tree that a maker makes of trees told by number."""
        if (maker, own) in self.numbers:
            return self.numbers[(maker, own)]
        size = 1 + sum([self.sizes[part] for part in own])
        depth = 1 + max([self.depths[part] for part in own], default=0)
        return self._number((maker, own), (maker, *[self.trees[part] for part in own]), size, depth)

    def of_tree(self, tree):
        """Tell the number of a tree."""
        done = []
        for node in reversed(nodes_of(tree)):
            if isinstance(node, tuple):
                own = [done.pop() for _ in node[1:]]
                done.append(self.of_made(node[0], tuple(own)))
            else:
                done.append(self.of_mark(node))
        return done.pop()

    def _number(self, key, tree, size, depth):
        if key not in self.numbers:
            self.numbers[key] = len(self.trees)
            self.trees.append(tree)
            self.sizes.append(size)
            self.depths.append(depth)
        return self.numbers[key]
