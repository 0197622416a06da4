"""The examples of the document for the modules there are, in [15], [22] and [41]."""

import unittest

from leanwebs.errors import BadLine
from tests.helper import Case

# Each row has the lines that the document shows and what the last of them gives.
EXAMPLES = (
    ("""from leanwebs.webs import Web
from leanwebs.sums import mean, total
web = Web.ring((1, 2), (1, 2), (1, 2), (1, 2))
(total(web), mean(web, (0, 1)), mean(web, [2, 0]), mean(web, (3,), floor=1))""",
     "((17, 1), (10, 17), (8, 17), (8, 17))"),
    ("""from leanwebs.webs import Web
from leanwebs.spreads import Spread, squares
rest = Spread.of(Web.star((1, 2), (1, 2), (1, 2))).left_out((0,))
squares(rest)""",
     "(((0, 1), (7, 3)), ((0, 2), (7, 3)), ((1, 2), (7, 3)))"),
    ("""from leanwebs.webs import Web
from leanwebs.spreads import Spread, unlike_boxes
unlike_boxes(Spread.of(Web.star((1, 2), (1, 2), (1, 2), (1, 2))).left_out([0]))""",
     "(0, 1, (1, 1, 1, 1), (1, 1, 1, -1))"),
    ("""from leanwebs.webs import Web
from leanwebs.toldties import tie_chances
tie_chances(Web.ring((1, 2), (1, 2), (1, 2)), 0)""",
     "((1, 9), (5, 9), (5, 6))"),
    ("""from leanwebs.webs import Web
from leanwebs.clusters import cluster_chances, sign_given
web = Web(2, [(0, 1, (1, 2)), (0, 1, (-1, 2))])
(cluster_chances(web), sign_given(web, (1,), (0, 1)), sign_given(web, (0, 1), (0, 1)))""",
     "([((), (1, 3)), ((0,), (1, 3)), ((1,), (1, 3))], -1, 0)"),
    ("""from leanwebs.webs import Web
from leanwebs.doubled import weights_seen
weights_seen(Web.line((1, 3)), (), (0, 1))""",
     "[(((0,), (1,)), (8, 9)), (((0, 1),), (1, 9))]"),
    ("""from leanwebs.webs import Web
from leanwebs.along import Along
one = Along(Web.ring((1, 2), (1, 2), (1, 3)), 2, (0, 1))
(one((1, 3)), one.slope(0), one.course, one.cross([0, (1, 2), (-1, 2), (1, 3)]))""",
     "((8, 13), (3, 8), 'rises', (-1, 4))"),
)


class TestExamples(Case):
    def test_examples(self):
        for text, wanted in EXAMPLES:
            with self.subTest(text):
                *rows, last = text.split("\n")
                names = {}
                exec("\n".join(rows), names)
                self.assertEqual(repr(eval(last, names)), wanted)

    def test_bad_line(self):
        from leanwebs.texts import web_from
        self.raises(BadLine(3), web_from, "places 2\n\n 0 1  3/2")


if __name__ == "__main__":
    unittest.main()
