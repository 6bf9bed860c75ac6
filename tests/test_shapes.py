"""Points 3, 4 and 5 and the functions of treesays/shapes.py."""

import itertools
import unittest

from helper import KINDS, NO_KINDS, plain_at, plain_paths, plain_shapes, plain_text, word
from treesays.errors import InvalidKind, InvalidShape, NoSuchElement, TooLarge
from treesays.shapes import (
    all_shapes, check_kind, is_shape, part, paths, read_shape, size, with_part, write_shape,
)

# a with b below it on both sides, the second one with a c as its first child
TREE = ("a", ("b", (), ()), ("b", ("c", (), ()), ()))
DEEP = 3000


def deep_word():
    return word("ab" * (DEEP // 2))


def deep_tree():
    shape = ()
    for _ in range(DEEP):
        shape = ("a", (), shape)
    return shape


def small_shapes(most=4):
    for kind in KINDS:
        for count in range(most + 1 if len(kind[1]) < 3 else most):
            for shape in plain_shapes(*kind, count):
                yield kind, shape


class KindsTest(unittest.TestCase):
    def test_kinds_are_kinds(self):
        for kind in KINDS + [(1, ("z",)), (2, ("a", "y", "z")), (1, ("a", "z"))]:
            with self.subTest(kind):
                self.assertIsNone(check_kind(kind))

    def test_each_letter_is_a_label(self):
        for letter in "abcdefghijklmnopqrstuvwxyz":
            self.assertIsNone(check_kind((1, (letter,))))
            self.assertIsNone(check_kind((2, (letter,))))

    def test_other_tuples_are_none(self):
        for kind in NO_KINDS:
            with self.subTest(kind), self.assertRaises(InvalidKind):
                check_kind(kind)

    def test_a_wrong_kind_comes_first_of_all_errors(self):
        for kind in NO_KINDS:
            with self.subTest(kind):
                self.assertRaises(InvalidKind, is_shape, kind, ())
                self.assertRaises(InvalidKind, is_shape, kind, ("?", "?", "?", "?"))
                self.assertRaises(InvalidKind, read_shape, kind, ".")
                self.assertRaises(InvalidKind, read_shape, kind, "no shape at all")
                self.assertRaises(InvalidKind, all_shapes, kind, 0)
                self.assertRaises(InvalidKind, all_shapes, kind, 40)


class IsShapeTest(unittest.TestCase):
    def test_shapes_are_shapes(self):
        for kind, shape in small_shapes():
            self.assertIs(is_shape(kind, shape), True)

    def test_labels_that_the_kind_lacks(self):
        self.assertIs(is_shape((1, ("a", "b")), word("abab")), True)
        self.assertIs(is_shape((1, ("a", "b")), word("abcb")), False)
        self.assertIs(is_shape((1, ("a", "b")), word("c")), False)
        self.assertIs(is_shape((1, ("a", "c")), word("acb")), False)
        self.assertIs(is_shape((2, ("a", "b", "c")), TREE), True)
        self.assertIs(is_shape((2, ("a", "b")), TREE), False)
        self.assertIs(is_shape((2, ("b", "c")), TREE), False)

    def test_words_are_no_trees_and_trees_no_words(self):
        self.assertIs(is_shape((2, ("a", "b")), word("ab")), False)
        self.assertIs(is_shape((2, ("a", "b")), word("a")), False)
        self.assertIs(is_shape((1, ("a", "b", "c")), TREE), False)
        self.assertIs(is_shape((1, ("a",)), ("a", (), ())), False)
        for ways in (1, 2):
            self.assertIs(is_shape((ways, ("a",)), ()), True)

    def test_tuples_that_are_no_shapes(self):
        words = [("a",), ("a", "b"), ("a", "a"), ((), "a"), ((), ()), ("a", ("b",)), ("a", ("b", (), ())), ("a", ((),)),
                 ("a", ("b", "")), ("aa", ()), ("", ()), ("ab", ()), ("a", (), "b"), (("a", ()), ()), ("a", ("b", ("a",))),
                 ("A", ()), ((),), "a", "", "."]
        for value in words:
            with self.subTest(value):
                self.assertIs(is_shape((1, ("a", "b")), value), False)
        trees = [("a",), ("a", ()), ("a", (), (), ()), ("a", (), "b"), ("a", "b", ()), ((), (), ()), ("a", (), ("b", ())),
                 ("a", ("b", ()), ()), ("a", ("b", (), ()), ("b",)), ((), (), "a"), ("ab", (), ()), ("", (), ()),
                 ("a", ("b", (), ("a", (), "")), ()), (("a", (), ()), (), ()), ((), ()), ((),)]
        for value in trees:
            with self.subTest(value):
                self.assertIs(is_shape((2, ("a", "b")), value), False)

    def test_deep_shapes(self):
        self.assertIs(is_shape((1, ("a", "b")), deep_word()), True)
        self.assertIs(is_shape((1, ("a",)), deep_word()), False)
        self.assertIs(is_shape((2, ("a",)), deep_tree()), True)
        self.assertIs(is_shape((2, ("b",)), deep_tree()), False)


class SizesAndPathsTest(unittest.TestCase):
    def test_the_examples_of_the_document(self):
        self.assertEqual(
            (write_shape(("a", ("b", ()))), write_shape(("a", (), ("b", (), ()))), paths(("a", (), ("b", (), ())))),
            ("ab.", "a(.,b(.,.))", [(), (1,)]),
        )
        self.assertEqual(all_shapes((2, ("a",)), 2), [("a", (), ("a", (), ())), ("a", ("a", (), ()), ())])

    def test_sizes(self):
        self.assertEqual(size(()), 0)
        self.assertEqual(size(word("a")), 1)
        self.assertEqual(size(word("abcab")), 5)
        self.assertEqual(size(TREE), 4)
        for _, shape in small_shapes():
            self.assertEqual(size(shape), len(plain_paths(shape)))
        self.assertEqual(size(deep_word()), DEEP)
        self.assertEqual(size(deep_tree()), DEEP)

    def test_paths_by_hand(self):
        self.assertEqual(paths(()), [])
        self.assertEqual(paths(word("aba")), [(), (0,), (0, 0)])
        self.assertEqual(paths(TREE), [(), (0,), (1,), (1, 0)])

    def test_paths_are_all_and_ascend(self):
        for _, shape in small_shapes():
            self.assertEqual(paths(shape), sorted(plain_paths(shape)))

    def test_paths_are_a_new_list_at_each_call(self):
        first = paths(TREE)
        first.append("more")
        self.assertEqual(paths(TREE), [(), (0,), (1,), (1, 0)])

    def test_paths_of_a_deep_word(self):
        self.assertEqual(paths(deep_word())[-1], (0,) * (DEEP - 1))
        self.assertEqual(paths(deep_tree())[-1], (1,) * (DEEP - 1))


class PartsTest(unittest.TestCase):
    def test_parts_by_hand(self):
        self.assertEqual(part(TREE, ()), TREE)
        self.assertEqual(part(TREE, (0,)), ("b", (), ()))
        self.assertEqual(part(TREE, (1, 0)), ("c", (), ()))
        self.assertEqual(part(word("abc"), (0,)), word("bc"))

    def test_parts_of_all_elements(self):
        for _, shape in small_shapes():
            for path in plain_paths(shape):
                self.assertEqual(part(shape, path), plain_at(shape, path))

    def test_no_part_without_an_element(self):
        for shape, path in [
            ((), ()), ((), (0,)), ((), (1,)), ((), (0, 0)),
            (word("a"), (0,)), (word("ab"), (1,)), (word("ab"), (0, 0)), (word("ab"), (0, 1)), (word("ab"), (-1,)),
            (word("ab"), (2,)), (word("abc"), (0, 0, 0)), (word("abc"), (0, 0, 0, 0)), (word("abc"), (-2,)),
            (TREE, (2,)), (TREE, (-1,)), (TREE, (-2,)), (TREE, (-3,)), (TREE, (0, 0)), (TREE, (0, 1)), (TREE, (1, 1)),
            (TREE, (1, 0, 0)), (TREE, (1, 2)), (TREE, (1, -1)), (TREE, (0, 0, 0)), (TREE, (1, 1, 1)), (TREE, (7,)),
        ]:
            with self.subTest((shape, path)):
                self.assertRaises(NoSuchElement, part, shape, path)

    def test_all_paths_up_to_a_length(self):
        for shape in [(), word("ab"), TREE, ("a", (), ("b", (), ()))]:
            known = plain_paths(shape)
            for length in range(4):
                for path in itertools.product((-1, 0, 1, 2), repeat=length):
                    if path in known:
                        self.assertEqual(part(shape, path), plain_at(shape, path))
                    else:
                        self.assertRaises(NoSuchElement, part, shape, path)

    def test_deep_parts(self):
        self.assertEqual(part(deep_word(), (0,) * (DEEP - 2)), word("ab"))
        self.assertEqual(part(deep_tree(), (1,) * (DEEP - 1)), ("a", (), ()))
        self.assertRaises(NoSuchElement, part, deep_word(), (0,) * DEEP)


class WithPartTest(unittest.TestCase):
    def test_at_elements(self):
        self.assertEqual(with_part(word("abc"), (0,), word("x")), word("ax"))
        self.assertEqual(with_part(word("abc"), (), word("x")), word("x"))
        self.assertEqual(with_part(word("abc"), (0, 0), ()), word("ab"))
        self.assertEqual(with_part(word("abc"), (), ()), ())
        new = ("d", (), ("e", (), ()))
        self.assertEqual(with_part(TREE, (0,), new), ("a", new, ("b", ("c", (), ()), ())))
        self.assertEqual(with_part(TREE, (1,), new), ("a", ("b", (), ()), new))
        self.assertEqual(with_part(TREE, (1, 0), new), ("a", ("b", (), ()), ("b", new, ())))
        self.assertEqual(with_part(TREE, (), new), new)

    def test_at_missing_children(self):
        new = ("d", (), ())
        self.assertEqual(with_part(word("ab"), (0, 0), word("cd")), word("abcd"))
        self.assertEqual(with_part(TREE, (0, 0), new), ("a", ("b", new, ()), ("b", ("c", (), ()), ())))
        self.assertEqual(with_part(TREE, (0, 1), new), ("a", ("b", (), new), ("b", ("c", (), ()), ())))
        self.assertEqual(with_part(TREE, (1, 1), new), ("a", ("b", (), ()), ("b", ("c", (), ()), new)))
        self.assertEqual(with_part(TREE, (1, 0, 1), new), ("a", ("b", (), ()), ("b", ("c", (), new), ())))
        self.assertEqual(with_part(TREE, (0, 0), ()), TREE)

    def test_at_the_top_of_the_empty_shape(self):
        self.assertEqual(with_part((), (), word("ab")), word("ab"))
        self.assertEqual(with_part((), (), TREE), TREE)
        self.assertEqual(with_part((), (), ()), ())

    def test_no_other_paths(self):
        for shape, path in [
            ((), (0,)), ((), (1,)), ((), (0, 0)), ((), (-1,)),
            (word("ab"), (1,)), (word("ab"), (0, 1)), (word("ab"), (0, 0, 0)), (word("ab"), (-1,)), (word("ab"), (2,)),
            (word("ab"), (0, 0, 0, 0)), (word("ab"), (0, 0, 1)),
            (TREE, (2,)), (TREE, (-1,)), (TREE, (0, 2)), (TREE, (0, 0, 0)), (TREE, (0, 1, 1)), (TREE, (1, 1, 0)),
            (TREE, (1, -1)), (TREE, (0, -3)), (TREE, (1, 0, 0, 0)),
        ]:
            for new in [(), word("x") if len(shape) == 2 else ("x", (), ())]:
                with self.subTest((shape, path)):
                    self.assertRaises(NoSuchElement, with_part, shape, path, new)

    def test_all_elements_of_small_shapes(self):
        for kind, shape in small_shapes(3):
            new = ("q",) + ((),) * kind[0]
            for path in plain_paths(shape):
                result = with_part(shape, path, new)
                self.assertEqual(plain_at(result, path), new)
                self.assertEqual(with_part(result, path, plain_at(shape, path)), shape)

    def test_deep_paths(self):
        longer = with_part(deep_word(), (0,) * DEEP, word("b"))
        self.assertEqual(write_shape(longer), write_shape(deep_word())[:-1] + "b.")
        self.assertRaises(NoSuchElement, with_part, deep_word(), (0,) * (DEEP + 1), word("b"))


class TextsTest(unittest.TestCase):
    def test_texts_by_hand(self):
        for shape, text in [
            ((), "."), (word("a"), "a."), (word("abca"), "abca."), (("a", (), ()), "a(.,.)"),
            (TREE, "a(b(.,.),b(c(.,.),.))"), (("z", ("y", (), ("x", (), ())), ()), "z(y(.,x(.,.)),.)"),
        ]:
            self.assertEqual(write_shape(shape), text)

    def test_there_and_back(self):
        for kind, shape in small_shapes():
            text = write_shape(shape)
            self.assertEqual(text, plain_text(shape))
            self.assertEqual(read_shape(kind, text), shape)

    def test_deep_texts(self):
        text = "ab" * (DEEP // 2) + "."
        self.assertEqual(write_shape(read_shape((1, ("a", "b")), text)), text)
        text = "a(.," * DEEP + "." + ")" * DEEP
        self.assertEqual(write_shape(deep_tree()), text)
        self.assertEqual(write_shape(read_shape((2, ("a",)), text)), text)
        text = "a(" * DEEP + "." + ",.)" * DEEP
        self.assertEqual(write_shape(read_shape((2, ("a",)), text)), text)

    def test_no_shape_has_these_texts(self):
        for kind, text in [
            ((1, ("a", "b")), ""), ((1, ("a", "b")), "a"), ((1, ("a", "b")), ".."), ((1, ("a", "b")), "a.."),
            ((1, ("a", "b")), ".a"), ((1, ("a", "b")), ".a."), ((1, ("a", "b")), "a.b."), ((1, ("a", "b")), "c."),
            ((1, ("a", "b")), "abc."), ((1, ("a", "b")), "a(.,.)"), ((1, ("a", "b")), " a."), ((1, ("a", "b")), "a. "),
            ((1, ("a", "b")), "A."), ((1, ("a", "b")), "a,b."), ((1, ("a", "b")), "(ab.)"), ((1, ("a", "b")), "ab.\n"),
            ((2, ("a", "b")), ""), ((2, ("a", "b")), "a"), ((2, ("a", "b")), "a."), ((2, ("a", "b")), "ab."),
            ((2, ("a", "b")), ".."), ((2, ("a", "b")), "a(.,.)."), ((2, ("a", "b")), "a(.,.)a(.,.)"),
            ((2, ("a", "b")), "a(.,.,.)"), ((2, ("a", "b")), "a(.)"), ((2, ("a", "b")), "a.."),
            ((2, ("a", "b")), "a(..)"), ((2, ("a", "b")), "a(.,."), ((2, ("a", "b")), "a.,.)"),
            ((2, ("a", "b")), "(.,.)"), ((2, ("a", "b")), "a(.,.))"), ((2, ("a", "b")), "a((.,.)"),
            ((2, ("a", "b")), "c(.,.)"), ((2, ("a", "b")), "a(c(.,.),.)"), ((2, ("a", "b")), "a(., .)"),
            ((2, ("a", "b")), "a)., .("), ((2, ("a", "b")), "a(b,a)"), ((2, ("a", "b")), ".a(.,.)"),
        ]:
            with self.subTest((kind, text)):
                self.assertRaises(InvalidShape, read_shape, kind, text)

    def test_texts_with_one_character_changed(self):
        signs = "abc.(),{ "
        for kind, shape in small_shapes(3):
            shapes = {plain_text(other) for count in range(5) for other in plain_shapes(*kind, count)}
            text = plain_text(shape)
            changed = [text[:k] + text[k + 1:] for k in range(len(text))]
            changed += [text[:k] + sign + text[k:] for k in range(len(text) + 1) for sign in signs]
            changed += [text[:k] + sign + text[k + 1:] for k in range(len(text)) for sign in signs]
            changed += [text + plain_text(shape), text + ".", "." + text, text[::-1]]
            for other in changed:
                if other in shapes:
                    self.assertEqual(plain_text(read_shape(kind, other)), other)
                else:
                    self.assertRaises(InvalidShape, read_shape, kind, other)

    def test_texts_of_one_size_have_one_length(self):
        for kind in KINDS:
            for count in range(4):
                self.assertEqual(len({len(write_shape(shape)) for shape in all_shapes(kind, count)}), 1)


class AllShapesTest(unittest.TestCase):
    def test_small_sizes(self):
        for kind in KINDS:
            for count in range(6 if len(kind[1]) < 3 else 5):
                found = all_shapes(kind, count)
                self.assertEqual(found, sorted(plain_shapes(*kind, count), key=plain_text))

    def test_by_hand(self):
        self.assertEqual(all_shapes((1, ("a", "b")), 0), [()])
        self.assertEqual(all_shapes((2, ("a", "b")), 0), [()])
        self.assertEqual(all_shapes((1, ("a", "b")), 2), [word("aa"), word("ab"), word("ba"), word("bb")])
        self.assertEqual([write_shape(shape) for shape in all_shapes((2, ("a",)), 3)], [
            "a(.,a(.,a(.,.)))", "a(.,a(a(.,.),.))", "a(a(.,.),a(.,.))", "a(a(.,a(.,.)),.)", "a(a(a(.,.),.),.)",
        ])

    def test_the_list_is_new_at_each_call(self):
        first = all_shapes((1, ("a",)), 2)
        first.append("more")
        self.assertEqual(all_shapes((1, ("a",)), 2), [word("aa")])
        first = all_shapes((1, ("a",)), 0)
        first.append("more")
        self.assertEqual(all_shapes((1, ("a",)), 0), [()])

    def check_numbers(self, kind, sizes, number_of):
        for count in sizes:
            number = number_of(count)
            with self.subTest((kind, count)):
                if number > 20000:
                    self.assertRaises(TooLarge, all_shapes, kind, count)
                else:
                    texts = [write_shape(shape) for shape in all_shapes(kind, count)]
                    self.assertEqual(len(texts), number)
                    self.assertEqual(texts, sorted(set(texts)))

    def test_too_large_exactly_beyond_20000_words(self):
        for labels in [("a",), ("a", "b"), ("a", "b", "c")]:
            self.check_numbers((1, labels), range(41), lambda count: len(labels) ** count)

    def test_too_large_exactly_beyond_20000_trees(self):
        catalan = [1]
        while len(catalan) < 41:
            catalan.append(sum(one * other for one, other in zip(catalan, reversed(catalan))))
        for labels in [("a",), ("a", "b"), ("a", "b", "c")]:
            self.check_numbers((2, labels), range(41), lambda count: catalan[count] * len(labels) ** count)

    def test_sizes_far_beyond(self):
        self.assertEqual([write_shape(shape) for shape in all_shapes((1, ("c",)), 500)], ["c" * 500 + "."])
        self.assertRaises(TooLarge, all_shapes, (1, ("a", "b")), 10 ** 6)
        self.assertRaises(TooLarge, all_shapes, (2, ("a",)), 10 ** 6)


if __name__ == "__main__":
    unittest.main()
