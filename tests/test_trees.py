"""[1.4] to [1.7] and the interface of onewatcher/trees.py."""

import unittest

from onewatcher.errors import BadParts, OutOfTree
from onewatcher.seals import MAX_PART, Notary
from onewatcher.trees import WordTree, path_of, root_by, root_of

SIZES = (1, 2, 4, 8, 16, 32, 64, 128, 256, 512, 1024)


def told_root(notary, leaves):
    """The root as [1.4] tells it, found without sealing; 0 if a node has no seal."""
    if len(leaves) == 1:
        return leaves[0]
    half = len(leaves) // 2
    left = told_root(notary, leaves[:half])
    right = told_root(notary, leaves[half:])
    return notary.find(("pair", left, right)) if left and right else 0


def told_path(notary, leaves, index):
    """The path as [1.5] tells it: at each height the root of the other tree."""
    if len(leaves) == 1:
        return ()
    half = len(leaves) // 2
    if index < half:
        return told_path(notary, leaves[:half], index) + (told_root(notary, leaves[half:]),)
    return told_path(notary, leaves[half:], index - half) + (told_root(notary, leaves[:half]),)


def sealed_leaves(notary, count):
    return tuple(notary.seal(("leaf", n)) for n in range(count))


def watched(notary):
    """What the notary counts, to see that a call has changed nothing."""
    return (notary.size(), notary.finds())


class RootsTest(unittest.TestCase):
    def test_small_trees(self):
        notary = Notary()
        a, b, c, d = sealed_leaves(notary, 4)
        self.assertEqual(root_of(notary, (a,)), a)
        left = root_of(notary, (a, b))
        self.assertEqual(notary.parts_of(left), ("pair", a, b))
        root = root_of(notary, (a, b, c, d))
        self.assertEqual(notary.parts_of(root), ("pair", left, notary.find(("pair", c, d))))

    def test_one_leaf_is_the_root_whatever_it_is(self):
        notary = Notary()
        for leaf in (0, 5, MAX_PART, MAX_PART + 1):
            self.assertEqual(root_of(notary, (leaf,)), leaf)
            self.assertEqual(path_of(notary, (leaf,), 0), ())

    def test_every_size(self):
        for count in SIZES:
            notary = Notary()
            leaves = sealed_leaves(notary, count)
            root = root_of(notary, leaves)
            self.assertEqual(root, told_root(notary, leaves))
            self.assertEqual(root_of(notary, leaves), root)

    def test_equal_leaves(self):
        notary = Notary()
        leaf = notary.seal(("leaf",))
        root = root_of(notary, (leaf,) * 8)
        self.assertNotEqual(root, 0)
        self.assertEqual(root, told_root(notary, (leaf,) * 8))

    def test_other_numbers_of_leaves(self):
        notary = Notary()
        leaves = sealed_leaves(notary, 2048)
        before = watched(notary)
        for count in (0, 3, 5, 6, 7, 9, 12, 63, 65, 1023, 1025, 2048):
            with self.assertRaises(OutOfTree):
                root_of(notary, leaves[:count])
            for index in (0, 1):
                with self.assertRaises(OutOfTree):
                    path_of(notary, leaves[:count], index)
        self.assertEqual(watched(notary), before)

    def test_an_error_seals_nothing(self):
        notary = Notary()
        a, b = sealed_leaves(notary, 2)
        before = watched(notary)
        for bad in (-1, MAX_PART + 1):
            for leaves in ((a, b, b, bad), (bad, b, a, b)):
                with self.assertRaises(BadParts):
                    root_of(notary, leaves)
                with self.assertRaises(BadParts):
                    path_of(notary, leaves, 1)
        self.assertEqual(watched(notary), before)

    def test_different_leaves_lead_to_different_roots(self):
        notary = Notary()
        leaves = sealed_leaves(notary, 8)
        path = path_of(notary, leaves, 5)
        roots = []
        for n in range(40):
            other = notary.seal(("other", n))
            roots.append(root_of(notary, leaves[:5] + (other,) + leaves[6:]))
            self.assertEqual(root_by(notary, 5, other, path), roots[-1])
        self.assertEqual(len(set(roots)), 40)


class PathsTest(unittest.TestCase):
    def test_small_paths(self):
        notary = Notary()
        a, b, c, d = sealed_leaves(notary, 4)
        self.assertEqual(path_of(notary, (a,), 0), ())
        self.assertEqual(path_of(notary, (a, b), 0), (b,))
        self.assertEqual(path_of(notary, (a, b), 1), (a,))
        self.assertEqual(path_of(notary, (a, b, c, d), 0), (b, root_of(notary, (c, d))))
        self.assertEqual(path_of(notary, (a, b, c, d), 2), (d, root_of(notary, (a, b))))
        self.assertEqual(path_of(notary, (a, b, c, d), 3), (c, root_of(notary, (a, b))))

    def test_every_index(self):
        for count in SIZES[:6]:
            notary = Notary()
            leaves = sealed_leaves(notary, count)
            for index in range(count):
                path = path_of(notary, leaves, index)
                self.assertIsInstance(path, tuple)
                self.assertEqual(path, told_path(notary, leaves, index))
                self.assertEqual(root_by(notary, index, leaves[index], path), root_of(notary, leaves))

    def test_great_trees(self):
        for count in SIZES[6:]:
            notary = Notary()
            leaves = sealed_leaves(notary, count)
            for index in (0, 1, count // 2 - 1, count // 2, count - 1):
                path = path_of(notary, leaves, index)
                self.assertEqual(path, told_path(notary, leaves, index))
                self.assertEqual(root_by(notary, index, leaves[index], path), told_root(notary, leaves))

    def test_all_nodes_are_sealed(self):
        for count in SIZES:
            notary = Notary()
            leaves = sealed_leaves(notary, count)
            path_of(notary, leaves, 0)
            self.assertNotEqual(told_root(notary, leaves), 0)

    def test_no_such_index(self):
        notary = Notary()
        leaves = sealed_leaves(notary, 64)
        before = watched(notary)
        for count in (1, 2, 4, 64):
            for index in (-count, -1, count, count + 1, 2 ** 48):
                with self.assertRaises(OutOfTree):
                    path_of(notary, leaves[:count], index)
        self.assertEqual(watched(notary), before)


class RootByTest(unittest.TestCase):
    def setUp(self):
        self.notary = Notary()
        self.leaves = sealed_leaves(self.notary, 16)
        self.root = root_of(self.notary, self.leaves)

    def test_seals_nothing_and_asks_once_an_element(self):
        for index in range(16):
            path = path_of(self.notary, self.leaves, index)
            size, finds = watched(self.notary)
            self.assertEqual(root_by(self.notary, index, self.leaves[index], path), self.root)
            self.assertEqual(self.notary.size(), size)
            self.assertLessEqual(self.notary.finds(), finds + 4)

    def test_other_index_leads_elsewhere(self):
        path = path_of(self.notary, self.leaves, 6)
        for index in range(-20, 40):
            found = root_by(self.notary, index, self.leaves[6], path)
            self.assertEqual(found, self.root if index == 6 else 0, index)

    def test_index_out_of_range_asks_nothing_wrong(self):
        path = path_of(self.notary, self.leaves, 0)
        for index in (-1, -16, 16, 32, 2 ** 48):
            before = self.notary.size()
            self.assertEqual(root_by(self.notary, index, self.leaves[0], path), 0)
            self.assertEqual(self.notary.size(), before)

    def test_the_empty_path(self):
        before = self.notary.size()
        for leaf in (0, 1, -1, 5, 2 ** 48, 2 ** 48 + 1, -(2 ** 70)):
            self.assertEqual(root_by(self.notary, 0, leaf, ()), leaf)
            for index in (-1, 1, 2):
                self.assertEqual(root_by(self.notary, index, leaf, ()), 0)
        self.assertEqual(self.notary.size(), before)

    def test_a_missing_seal_at_each_height(self):
        for index in (0, 5, 15):
            path = path_of(self.notary, self.leaves, index)
            for height in range(4):
                for wrong in (0, -1, 999, MAX_PART, MAX_PART + 1):
                    spoilt = path[:height] + (wrong,) + path[height + 1:]
                    size, finds = watched(self.notary)
                    self.assertEqual(root_by(self.notary, index, self.leaves[index], spoilt), 0)
                    self.assertEqual(self.notary.size(), size)
                    self.assertLessEqual(self.notary.finds(), finds + 4)
            for wrong in (0, -1, 999, MAX_PART + 1):
                self.assertEqual(root_by(self.notary, index, wrong, path), 0)

    def test_a_missing_seal_is_not_made_good_by_a_pair_with_0(self):
        top = self.notary.seal(("pair", 0, 7))
        mirrored = self.notary.seal(("pair", 7, 0))
        self.assertEqual(root_by(self.notary, 0, 998, (999, 7)), 0)
        self.assertEqual(root_by(self.notary, 2, 998, (999, 7)), 0)
        # As a leaf, 0 is a number like any other.
        self.assertEqual(root_by(self.notary, 0, 0, (7,)), top)
        self.assertEqual(root_by(self.notary, 1, 0, (7,)), mirrored)
        self.assertEqual(root_by(self.notary, 0, 7, (0,)), mirrored)

    def test_the_side_of_each_element(self):
        low = self.notary.seal(("pair", 101, 102))
        high = self.notary.seal(("pair", 103, low))
        self.assertEqual(root_by(self.notary, 2, 101, (102, 103)), high)
        low = self.notary.seal(("pair", 202, 201))
        high = self.notary.seal(("pair", low, 203))
        self.assertEqual(root_by(self.notary, 1, 201, (202, 203)), high)
        for index in (0, 2, 3):
            self.assertEqual(root_by(self.notary, index, 201, (202, 203)), 0)

    def test_the_longest_path(self):
        notary = Notary()
        leaves = sealed_leaves(notary, 1024)
        root = root_of(notary, leaves)
        path = path_of(notary, leaves, 1023)
        self.assertEqual(len(path), 10)
        size, finds = watched(notary)
        self.assertEqual(root_by(notary, 1023, leaves[1023], path), root)
        self.assertEqual(root_by(notary, 1024, leaves[1023], path), 0)
        self.assertEqual(notary.size(), size)
        self.assertLessEqual(notary.finds(), finds + 20)


class WordTreeTest(unittest.TestCase):
    def check_tree(self, notary, tree, words):
        """The tree has these words, and the root and paths that [1.4] to [1.7] tell, all sealed."""
        root = tree.root()
        leaves = tuple(notary.find(("word", word)) for word in words)
        self.assertNotIn(0, leaves)
        self.assertEqual(root, told_root(notary, leaves))
        self.assertNotEqual(root, 0)
        self.assertEqual([tree.word_at(n) for n in range(len(words))], list(words))
        for index in sorted(set((0, len(words) // 3, len(words) // 2, len(words) - 1))):
            path = tree.path(index)
            self.assertIsInstance(path, tuple)
            self.assertEqual(path, told_path(notary, leaves, index))
            self.assertEqual(root_by(notary, index, leaves[index], path), root)

    def test_every_height(self):
        for height in range(11):
            notary = Notary()
            tree = WordTree(notary, height)
            words = [0] * 2 ** height
            self.check_tree(notary, tree, words)
            for index in range(0, len(words), 1 + len(words) // 7):
                words[index] = index * 77777 + 1
                tree.set_word(index, words[index])
            words[-1] = 4294967295
            tree.set_word(len(words) - 1, 4294967295)
            self.check_tree(notary, tree, words)

    def test_path_alone_seals_all_nodes(self):
        for height in range(7):
            notary = Notary()
            tree = WordTree(notary, height)
            words = list(range(5, 5 + 2 ** height))
            for index, word in enumerate(words):
                tree.set_word(index, word)
            tree.path(0)
            leaves = tuple(notary.find(("word", word)) for word in words)
            self.assertNotIn(0, leaves)
            self.assertNotEqual(told_root(notary, leaves), 0)

    def test_a_word_that_is_set_again(self):
        notary = Notary()
        tree = WordTree(notary, 3)
        first = tree.root()
        tree.set_word(5, 9)
        second = tree.root()
        tree.set_word(5, 8)
        self.check_tree(notary, tree, [0, 0, 0, 0, 0, 8, 0, 0])
        tree.set_word(5, 9)
        self.assertEqual(tree.root(), second)
        tree.set_word(5, 0)
        self.assertEqual(tree.root(), first)
        self.assertNotEqual(first, second)

    def test_root_is_that_of_the_leaves(self):
        notary = Notary()
        tree = WordTree(notary, 2)
        for index, word in enumerate((3, 0, 3, 4294967295)):
            tree.set_word(index, word)
        leaves = tuple(notary.seal(("word", word)) for word in (3, 0, 3, 4294967295))
        self.assertEqual(tree.root(), root_of(notary, leaves))
        self.assertEqual(tree.path(2), path_of(notary, leaves, 2))

    def test_copy_is_equal_and_independent(self):
        for height in (0, 1, 4, 10):
            notary = Notary()
            tree = WordTree(notary, height)
            words = [0] * 2 ** height
            words[-1] = 6
            tree.set_word(len(words) - 1, 6)
            other = tree.copy()
            self.assertIsInstance(other, WordTree)
            self.assertEqual(other.root(), tree.root())
            self.check_tree(notary, other, words)
            other.set_word(0, 70)
            self.check_tree(notary, tree, words)
            self.check_tree(notary, other, [70] + words[1:])
            tree.set_word(0, 80)
            self.check_tree(notary, other, [70] + words[1:])
            self.check_tree(notary, tree, [80] + words[1:])

    def test_copy_has_the_same_notary_and_height(self):
        notary = Notary()
        other = WordTree(notary, 5).copy().copy()
        self.check_tree(notary, other, [0] * 32)
        with self.assertRaises(OutOfTree):
            other.word_at(32)

    def test_two_trees_of_one_notary(self):
        notary = Notary()
        one = WordTree(notary, 2)
        other = WordTree(notary, 2)
        one.set_word(1, 5)
        self.check_tree(notary, one, [0, 5, 0, 0])
        self.check_tree(notary, other, [0, 0, 0, 0])

    def test_no_such_height(self):
        notary = Notary()
        for height in (-1, -11, 11, 12, 64, 2 ** 48):
            with self.assertRaises(OutOfTree):
                WordTree(notary, height)
        self.assertEqual(watched(notary), (0, 0))

    def test_no_such_index(self):
        for height in (0, 1, 6, 10):
            notary = Notary()
            tree = WordTree(notary, height)
            count = 2 ** height
            root = tree.root()
            before = watched(notary)
            for index in (-count - 1, -count, -1, count, count + 1, 2 ** 48):
                with self.assertRaises(OutOfTree):
                    tree.word_at(index)
                with self.assertRaises(OutOfTree):
                    tree.set_word(index, 12345)
                with self.assertRaises(OutOfTree):
                    tree.path(index)
            self.assertEqual(watched(notary), before)
            self.assertEqual(tree.root(), root)
            self.check_tree(notary, tree, [0] * count)

    def test_a_word_that_cannot_be_sealed_changes_nothing(self):
        notary = Notary()
        tree = WordTree(notary, 2)
        tree.set_word(1, 5)
        before = notary.size()
        with self.assertRaises(BadParts):
            tree.set_word(1, -1)
        self.assertEqual(notary.size(), before)
        self.check_tree(notary, tree, [0, 5, 0, 0])


class ExamplesTest(unittest.TestCase):
    def test_the_examples_of_the_document(self):
        notary = Notary()
        self.assertEqual(notary.seal(("a", 1)), 1)
        self.assertEqual(notary.find(("a", 2)), 0)
        self.assertEqual(notary.seal(("a", 2)), 2)
        self.assertEqual(notary.seal(("a", 1)), 1)
        tree = WordTree(notary, 2)
        self.assertIsNone(tree.set_word(3, 7))
        self.assertEqual(root_by(notary, 3, notary.seal(("word", 7)), tree.path(3)), tree.root())


if __name__ == "__main__":
    unittest.main()
