import unittest

from creepclocks import papers
from creepclocks.papers import Paper
from tests.helper import ANY_VALUES


class PaperTest(unittest.TestCase):
    def test_title(self):
        self.assertEqual(Paper("parting").title, "parting")
        self.assertEqual(Paper(title="summed").title, "summed")
        for value in ANY_VALUES:
            self.assertIs(Paper(value).title, value)

    def test_a_paper_of_no_other_class_is_right(self):
        self.assertIsNone(Paper("parting").wrong())
        self.assertIsNone(Paper("").wrong())

    def test_a_class_below(self):
        class Claim(Paper):
            def __init__(self, right):
                Paper.__init__(self, "claim")
                self.right = right

            def wrong(self):
                return None if self.right else (0, 1)

        self.assertEqual((Claim(True).title, Claim(True).wrong()), ("claim", None))
        self.assertEqual((Claim(False).title, Claim(False).wrong()), ("claim", (0, 1)))

    def test_defined_here(self):
        self.assertEqual(Paper.__module__, "creepclocks.papers")
        self.assertEqual(Paper.__bases__, (object,))
        self.assertIn("wrong", vars(Paper))
        self.assertIs(getattr(papers, "Paper"), Paper)


if __name__ == "__main__":
    unittest.main()
