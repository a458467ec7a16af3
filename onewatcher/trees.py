"""Trees of seals, the paths of their leaves, and trees of words.

The nodes of a tree with n leaves are kept in a list: the root at 1, the two nodes
under the one at k at 2k and 2k + 1, and so the leaves from n on. The item 0 is not used.
"""

from onewatcher.errors import BadParts, OutOfTree
from onewatcher.seals import MAX_PART, is_number

MAX_HEIGHT = 10

_SIZES = (1, 2, 4, 8, 16, 32, 64, 128, 256, 512, 1024)


def _check_leaves(leaves):
    if len(leaves) not in _SIZES:
        raise OutOfTree("no tree has so many leaves")
    # All leaves are looked at before a node is sealed: an error changes nothing.
    if len(leaves) > 1 and not all(is_number(leaf, MAX_PART) for leaf in leaves):
        raise BadParts("a leaf that cannot be a part")


def _sealed_node(notary, nodes, at):
    return notary.seal(("pair", nodes[2 * at], nodes[2 * at + 1]))


def _nodes_over(notary, leaves):
    nodes = [0] * len(leaves) + list(leaves)
    for at in reversed(range(1, len(leaves))):
        nodes[at] = _sealed_node(notary, nodes, at)
    return nodes


def _path_in(nodes, index):
    path = []
    at = len(nodes) // 2 + index
    while at > 1:
        # The other node under the same one differs in the last bit.
        path.append(nodes[at ^ 1])
        at = at // 2
    return tuple(path)


def root_of(notary, leaves):
    """The root of the tree with these leaves; all its nodes are sealed."""
    _check_leaves(leaves)
    return _nodes_over(notary, leaves)[1]


def path_of(notary, leaves, index):
    """The path of the leaf at the index; all nodes of the tree are sealed."""
    _check_leaves(leaves)
    if not is_number(index, len(leaves) - 1):
        raise OutOfTree("no leaf has this index")
    return _path_in(_nodes_over(notary, leaves), index)


def root_by(notary, index, leaf, path):
    """The root that a leaf, an index and a path lead to, or 0; seals nothing."""
    if not is_number(index, (1 << len(path)) - 1):
        return 0
    at = index
    reached = leaf
    for other in path:
        if at % 2 == 0:
            reached = notary.find(("pair", reached, other))
        else:
            reached = notary.find(("pair", other, reached))
        # Anybody may seal a pair with the number 0, which is no seal of a node.
        if reached == 0:
            return 0
        at = at // 2
    return reached


class WordTree:
    """A tree of words, at first 0, whose nodes are sealed at all times."""

    def __init__(self, notary, height):
        if not is_number(height, MAX_HEIGHT):
            raise OutOfTree("no tree of words has this height")
        self._notary = notary
        self._words = [0] * _SIZES[height]
        self._nodes = _nodes_over(notary, [notary.seal(("word", 0))] * _SIZES[height])

    def _check_index(self, index):
        if not is_number(index, len(self._words) - 1):
            raise OutOfTree("no word has this index")

    def word_at(self, index):
        """The word at the index."""
        self._check_index(index)
        return self._words[index]

    def set_word(self, index, word):
        """Put a word at the index."""
        self._check_index(index)
        leaf = self._notary.seal(("word", word))
        self._words[index] = word
        at = len(self._words) + index
        self._nodes[at] = leaf
        while at > 1:
            at = at // 2
            self._nodes[at] = _sealed_node(self._notary, self._nodes, at)

    def root(self):
        """The root of the tree."""
        return self._nodes[1]

    def path(self, index):
        """The path of the word at the index."""
        self._check_index(index)
        return _path_in(self._nodes, index)

    def copy(self):
        """An independent tree with the same words."""
        other = WordTree(self._notary, 0)
        other._words = list(self._words)
        other._nodes = list(self._nodes)
        return other
