"""Point 2 and the classes of treesays/errors.py."""

import unittest

from treesays import errors

PLAIN = ["InvalidKind", "InvalidShape", "InvalidSentence", "TooLarge", "NoSuchElement", "NoFunction",
         "UnknownQuestion"]


class ErrorsTest(unittest.TestCase):
    def test_the_base_class_is_a_value_error(self):
        self.assertEqual(errors.SayError.__bases__, (ValueError,))

    def test_all_errors_derive_directly_from_the_base_class(self):
        for name in PLAIN + ["SyntaxProblem"]:
            with self.subTest(name):
                self.assertEqual(getattr(errors, name).__bases__, (errors.SayError,))

    def test_there_are_no_other_errors(self):
        found = [name for name, value in vars(errors).items() if isinstance(value, type)]
        self.assertEqual(sorted(found), sorted(PLAIN + ["SyntaxProblem", "SayError"]))

    def test_plain_errors_are_raised_with_a_text(self):
        for name in PLAIN:
            with self.subTest(name), self.assertRaises(errors.SayError) as caught:
                raise getattr(errors, name)("some text")
            self.assertEqual(str(caught.exception), "some text")
            self.assertEqual(vars(caught.exception), {})

    def test_a_syntax_problem_has_its_start(self):
        for start in (0, 17):
            problem = errors.SyntaxProblem(start)
            self.assertEqual(problem.start, start)
            self.assertEqual(vars(problem), {"start": start})
            self.assertIsInstance(str(problem), str)
        self.assertEqual(errors.SyntaxProblem(start=4).start, 4)


if __name__ == "__main__":
    unittest.main()
