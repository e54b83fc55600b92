"""Every example of the interface that has landed, as it stands."""

import doctest
import unittest

RESTS = """
>>> from restkeepers.rests import is_prime, is_rest, least_odd, root, sign_rest, two_squares, undone_rest
>>> [is_prime(9), is_rest(5, 5), undone_rest(7, 3), sign_rest(7, 3), root(7, 2), root(7, 3), least_odd(7), two_squares(7, 3)]
[False, False, 5, -1, 3, None, 3, (1, 3)]
"""

TABLES = """
>>> from restkeepers.tables import about, determinant, idle, is_row, is_table, led_row, times, undone
>>> table = [[1, 2], [0, 3]]
>>> [times(5, table, ((0, 1), (1, 0))), led_row(5, [1, 1], table), about(5, table), determinant(5, table), undone(5, table), idle(1)]
[((2, 1), (3, 0)), (1, 0), ((1, 0), (2, 3)), 3, ((1, 1), (0, 2)), ((1,),)]
>>> [is_row(3, (0, 2)), is_row(3, [3]), is_table(5, [[1]]), is_table(5, [[1, 2]]), is_table(3, ()), determinant(3, ())]
[True, False, True, False, True, 1]
"""

# In their sequence: names stand for what they were in the last example that gave them.
EXAMPLES = [("rests", RESTS), ("tables", TABLES)]


class Examples(unittest.TestCase):

    def test_all(self):
        names, lines = {}, []
        runner = doctest.DocTestRunner(verbose=False)
        for word, text in EXAMPLES:
            test = doctest.DocTestParser().get_doctest(text, names, word, None, None)
            self.assertGreater(len(test.examples), 1)
            runner.run(test, out=lines.append, clear_globs=False)
            names = test.globs
        self.assertEqual("".join(lines), "")


if __name__ == "__main__":
    unittest.main()
