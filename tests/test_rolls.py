"""Points 2, 3 and 30: plans of rollings, as short as can be, and the looker at them."""

import collections
import itertools
import unittest

from facehouse.facetexts import read_face, show_face
from facehouse.rolls import plan, rolls_so
from facehouse.talk import talks
from tests.otherwise import otherwise, some_thing
from tests.plays import toggled_face
from tests.reference import dice_of
from tests.samples import any_things
from tests.second_lookers import states_by_steps


def bank(edition, ask="", answer="", calls=(1,)):
    """An edition of bank: its ask and its answer have a field note, must or may, or none."""
    rows = [f"face bank {edition}", "record give"] + ([f" 1 note text {answer}"] if answer else [])
    rows += ["record want"] + ([f" 1 note text {ask}"] if ask else [])
    deeds = [" copy note note"] if answer else []
    for number in calls:
        rows += [f"call {number} {'abcdef'[number - 1]} want give"] + deeds
    return read_face("\n".join(rows))


NONE, MAY, MUST = bank(1), bank(2, "may"), bank(3, "must")
BOOK = (NONE, MAY, MUST, read_face("face post 1\nrecord r\ncall 1 a r r"))


def pairs(**ends):
    return tuple(sorted(ends.items()))


class RollsTest(unittest.TestCase):
    kept = (None, None)

    def planned(self, book, server, speakers, goals, face="bank"):
        """What is told, once it is held against a search of the tests' own, and by the looker."""
        shown = [show_face(one) for one in book]
        told = plan(book, face, server, speakers, goals)
        rounds = states_by_steps(book, face, server, speakers)
        goal = tuple(edition for _, edition in goals)
        steps = [many for many, states in enumerate(rounds) if goal in states]
        self.assertIs(type(told), tuple)
        if steps:
            self.assertEqual(told[0], "plan")
            self.assertEqual(len(told[1]), steps[0])
            self.leads(book, face, server, speakers, goals, told[1])
        else:
            self.assertEqual(told, ("none", tuple(sorted(set().union(*rounds)))))
        self.assertIs(rolls_so(book, face, server, speakers, goals, told), True)
        self.assertEqual([show_face(one) for one in book], shown)
        return told

    def leads(self, book, face, server, speakers, goals, steps):
        """That steps lead to the goals, and behind each all askers talk with the server."""
        self.assertIs(type(steps), tuple)
        faces = {one.edition: one for one in book if one.name == face}
        state = dict(speakers)
        for end, edition in steps:
            self.assertNotEqual(state[end], edition)
            state[end] = edition
            for other in state:
                if other != server:
                    self.assertTrue(talks(faces[state[other]], faces[state[server]]))
        self.assertEqual(tuple(sorted(state.items())), goals)

    def test_the_goals_are_there_already(self):
        for edition in (1, 2, 3):
            speakers = pairs(ada=edition, bob=edition)
            self.assertEqual(self.planned(BOOK, "bob", speakers, speakers), ("plan", ()))

    def test_one_step(self):
        self.assertEqual(self.planned(BOOK, "bob", pairs(ada=1, bob=1), pairs(ada=1, bob=2)), ("plan", (("bob", 2),)))
        self.assertEqual(self.planned(BOOK, "ada", pairs(ada=1, bob=1), pairs(ada=2, bob=1)), ("plan", (("ada", 2),)))

    def test_a_way_round(self):
        # From no note to one that must be there, with askers ahead of the server.
        told = self.planned(BOOK, "bob", pairs(ada=1, bob=2), pairs(ada=3, bob=3))
        self.assertEqual(told, ("plan", (("ada", 3), ("bob", 3))))
        told = self.planned(BOOK, "bob", pairs(ada=1, bob=2, cyd=1, dan=1), pairs(ada=3, bob=3, cyd=3, dan=3))
        self.assertEqual((len(told[1]), told[1][-1]), (4, ("bob", 3)))
        # An edition that passes over notes reads both.
        told = self.planned(BOOK, "bob", pairs(ada=3, bob=3), pairs(ada=1, bob=1))
        self.assertEqual(told, ("plan", (("bob", 1), ("ada", 1))))

    def test_arguments_by_name(self):
        speakers, goals = pairs(ada=1, bob=1), pairs(ada=1, bob=2)
        told = plan(goals=goals, speakers=speakers, server="bob", face="bank", book=BOOK)
        self.assertEqual(told, ("plan", (("bob", 2),)))
        self.assertIs(rolls_so(paper=told, goals=goals, speakers=speakers, server="bob", face="bank", book=BOOK), True)

    def test_editions_that_must_be_passed_through(self):
        # 1 and 2 share no call, 3 has both: the server goes there, the askers over, the server on.
        book = (bank(1, calls=(1,)), bank(2, calls=(2,)), bank(3, calls=(1, 2)))
        told = self.planned(book, "bob", pairs(ada=1, bob=1), pairs(ada=2, bob=2))
        self.assertEqual(told, ("plan", (("bob", 3), ("ada", 2), ("bob", 2))))
        told = self.planned(book, "cyd", pairs(ada=1, bob=1, cyd=1, dan=1), pairs(ada=2, bob=2, cyd=2, dan=2))
        self.assertEqual((len(told[1]), told[1][0], told[1][-1]), (5, ("cyd", 3), ("cyd", 2)))
        # Without 3 it can't be.
        told = self.planned(book[:2], "bob", pairs(ada=1, bob=1), pairs(ada=2, bob=2))
        self.assertEqual(told, ("none", ((1, 1),)))

    def test_goals_that_do_not_talk(self):
        book = (bank(1, calls=(1,)), bank(2, calls=(2,)), bank(3, calls=(1, 2)))
        told = self.planned(book, "bob", pairs(ada=1, bob=1), pairs(ada=1, bob=2))
        self.assertEqual(told, ("none", ((1, 1), (1, 3), (2, 2), (2, 3), (3, 3))))
        told = self.planned(book, "ada", pairs(ada=1, bob=1), pairs(ada=2, bob=1))
        self.assertEqual(told, ("none", ((1, 1), (2, 2), (3, 1), (3, 2), (3, 3))))

    def test_one_edition(self):
        told = self.planned((bank(7),), "bob", pairs(ada=7, bob=7), pairs(ada=7, bob=7))
        self.assertEqual(told, ("plan", ()))

    def test_other_faces_of_the_book_do_not_count(self):
        other = read_face("face post 2\nrecord r\n 1 x whole must\ncall 1 a r r\n copy x x")
        told = self.planned((other, *BOOK), "bob", pairs(ada=1, bob=1), pairs(ada=3, bob=3))
        self.assertEqual(told, ("plan", (("ada", 3), ("bob", 3))))
        told = self.planned((other, *BOOK), "ada", pairs(ada=1, bob=1), pairs(ada=1, bob=1), face="post")
        self.assertEqual(told, ("plan", ()))

    def test_other_faces_are_no_way_round(self):
        # A post that has both calls would lead from bank 1 to bank 2, were it a bank.
        post = read_face("face post 3\nrecord give\nrecord want\ncall 1 a want give\ncall 2 b want give")
        told = self.planned((post, bank(1, calls=(1,)), bank(2, calls=(2,))), "bob", pairs(ada=1, bob=1), pairs(ada=2, bob=2))
        self.assertEqual(told, ("none", ((1, 1),)))
        paper = ("plan", (("bob", 3), ("ada", 2), ("bob", 2)))
        case = ((post, bank(1, calls=(1,)), bank(2, calls=(2,))), "bank", "bob", pairs(ada=1, bob=1), pairs(ada=2, bob=2))
        self.assertIs(self.look(*case, paper), False)

    def test_all_states_where_the_goals_are_among_them(self):
        case = (BOOK, "bank", "bob", pairs(ada=1, bob=1), pairs(ada=3, bob=3))
        states = tuple(sorted(self.all_states(*case[:4])))
        self.assertIn((3, 3), states)
        self.assertIs(self.look(*case, ("none", states)), False)
        others = tuple(state for state in states if state != (3, 3))
        self.assertIs(self.look(*case, ("none", others)), False)

    def test_only_talking_is_looked_at(self):
        # An edition that asks faces that nobody serves is rolled to, for the plan.
        asks = read_face("face bank 4\nrecord give\nrecord want\ncall 1 a want give\n ask zed go")
        told = self.planned((NONE, asks), "bob", pairs(ada=1, bob=1), pairs(ada=4, bob=4))
        self.assertEqual(len(told[1]), 2)

    def dice_cases(self, seed, many):
        dice = dice_of(seed)
        found = 0
        while found < many:
            many_editions = dice.choice((1, 2, 3, 4, 4, 5, 5, 6, 6))
            book = tuple(toggled_face(dice, "aa", edition, ()) for edition in sorted(dice.sample(range(1, 99), many_editions)))
            editions = [face.edition for face in book]
            ends = sorted(dice.sample(("ada", "bob", "cyd", "dan"), dice.randrange(2, 5)))
            server = dice.choice(ends)
            served = dice.choice(book)
            talking = [face.edition for face in book if talks(face, served)]
            speakers = tuple((end, served.edition if end == server else dice.choice(talking)) for end in ends)
            found += 1
            yield dice, book, server, speakers, tuple((end, dice.choice(editions)) for end in ends)

    def test_by_dice(self):
        counts = collections.Counter()
        for _, book, server, speakers, goals in self.dice_cases(30, 150):
            told = self.planned(book, server, speakers, goals, face="aa")
            counts[told[0], len(told[1]) if told[0] == "plan" else min(len(told[1]), 9)] += 1
        self.assertGreater(min(counts["plan", 2], counts["plan", 3], counts["none", 9]), 5, counts)
        self.assertGreater(sum(many for (word, steps), many in counts.items() if word == "plan" and steps > 3), 1, counts)

    def all_states(self, book, face, server, speakers):
        """All states that can be come to; kept, as many papers are looked at with one book."""
        case = tuple(show_face(one) for one in book), face, server, speakers
        if self.kept[0] != case:
            self.kept = case, set().union(*states_by_steps(book, face, server, speakers))
        return self.kept[1]

    def is_so(self, book, face, server, speakers, goals, paper):
        """Whether a paper is so, by the tests' own search."""
        ends = [end for end, _ in speakers]
        faces = {one.edition: one for one in book if one.name == face}
        if type(paper) is not tuple or len(paper) != 2 or paper[0] not in ("plan", "none") or type(paper[1]) is not tuple:
            return False
        if paper[0] == "none":
            states = self.all_states(book, face, server, speakers)
            return tuple(edition for _, edition in goals) not in states and repr(paper[1]) == repr(tuple(sorted(states)))
        state = [edition for _, edition in speakers]
        for step in paper[1]:
            if type(step) is not tuple or len(step) != 2 or step[0] not in ends or type(step[1]) is not int or step[1] not in faces:
                return False
            at = ends.index(step[0])
            if state[at] == step[1]:
                return False
            state[at] = step[1]
            served = faces[state[ends.index(server)]]
            if not all(talks(faces[state[spot]], served) for spot, end in enumerate(ends) if end != server):
                return False
        return state == [edition for _, edition in goals]

    def look(self, *case):
        found = rolls_so(*case)
        self.assertIs(type(found), bool)
        self.assertIs(found, self.is_so(*case), case[-1])
        return found

    def test_papers_with_one_thing_put_otherwise(self):
        counts = collections.Counter()
        for _, book, server, speakers, goals in self.dice_cases(31, 60):
            case = (book, "aa", server, speakers, goals)
            told = plan(*case)
            others = list(otherwise(told))
            for other in others[:30] + others[30::max(1, len(others) // 60)]:
                counts[told[0], self.look(*case, other)] += 1
        self.assertGreater(min(counts["plan", False], counts["none", False]), 100, counts)

    def test_truths_and_lists(self):
        case = (BOOK, "bank", "bob", pairs(ada=1, bob=2), pairs(ada=1, bob=1))
        self.assertIs(self.look(*case, ("plan", (("bob", 1),))), True)
        for paper in (("plan", (("bob", True),)), ("plan", [("bob", 1)]), ["plan", (("bob", 1),)], ("plan", (["bob", 1],)), ("plan", (("bob", "1"),)),
                      ("plan", (("bob", 1, 1),)), ("plan", (("bob",),)), ("plan", ("bob", 1)), ("plan", ((["bob"], 1),)), ("plan", (("zed", 1),)), ("plan", ()),
                      ("plan",), ("plan", (("bob", 1),), 1), ("none", ((1, 1),)), ("none", (("bob", 1),)), ("Plan", (("bob", 1),)), ("", ())):
            self.assertIs(self.look(*case, paper), False, paper)
        book = (bank(1, calls=(1,)), bank(2, calls=(2,)))
        case = (book, "bank", "bob", pairs(ada=1, bob=1), pairs(ada=2, bob=2))
        self.assertIs(self.look(*case, ("none", ((1, 1),))), True)
        for paper in (("none", ((1, True),)), ("none", ((True, 1),)), ("none", [(1, 1)]), ("none", ([1, 1],)), ("none", ((1, 1), (1, 1))), ("none", ()),
                      ("none", ((1, 1), (2, 2))), ("none", ((2, 2),)), ("none", (1, 1)), ("none",), ("none", None), ("plan", ((1, 1),)), ("plan", ())):
            self.assertIs(self.look(*case, paper), False, paper)

    def test_longer_plans_are_so_too(self):
        case = (BOOK, "bank", "bob", pairs(ada=1, bob=2), pairs(ada=3, bob=3))
        for steps in ((("ada", 3), ("bob", 3)), (("ada", 2), ("ada", 3), ("bob", 3)), (("ada", 3), ("bob", 3), ("bob", 1), ("bob", 3)),
                      (("bob", 1), ("ada", 3), ("bob", 3)), (("ada", 3), ("ada", 1)) * 20 + (("ada", 3), ("bob", 3))):
            self.assertIs(self.look(*case, ("plan", steps)), True, steps)
        for steps in ((("bob", 3), ("ada", 3)), (("ada", 1), ("ada", 3), ("bob", 3)), (("ada", 3), ("bob", 3), ("bob", 3)), (("ada", 3),), (("ada", 9),)):
            self.assertIs(self.look(*case, ("plan", steps)), False, steps)

    def test_no_steps_where_the_goals_are_there(self):
        speakers = pairs(ada=1, bob=1)
        case = (BOOK, "bank", "bob", speakers, speakers)
        self.assertIs(self.look(*case, ("plan", ())), True)
        self.assertIs(self.look(*case, ("plan", (("bob", 2), ("bob", 1)))), True)
        self.assertIs(self.look(*case, ("plan", (("bob", 1),))), False)
        self.assertIs(self.look(*case, ("none", ((1, 1),))), False)

    def test_any_things(self):
        dice = dice_of(32)
        book = (bank(1, calls=(1,)), bank(2, calls=(2,)))
        for case in ((BOOK, "bank", "bob", pairs(ada=1, bob=2), pairs(ada=3, bob=3)), (book, "bank", "bob", pairs(ada=1, bob=1), pairs(ada=2, bob=2))):
            for thing in any_things() + [some_thing(dice) for _ in range(150)]:
                for paper in (thing, ("plan", thing), ("none", thing), ("plan", (thing,)), ("none", (thing,)), ("plan", (("bob", thing),)),
                              ("plan", ((thing, 3),)), ("none", ((thing, 1),)), (thing, ())):
                    self.look(*case, paper)

    def test_the_most_ends_and_editions(self):
        book = tuple(bank(edition, ("", "may")[edition % 2]) for edition in range(1, 7))
        speakers = pairs(ada=1, bob=1, cyd=1, dan=1)
        for goals in itertools.islice(itertools.product(range(1, 7), repeat=4), 0, 1296, 97):
            told = self.planned(book, "cyd", speakers, tuple(zip(("ada", "bob", "cyd", "dan"), goals)))
            self.assertEqual((told[0], len(told[1])), ("plan", sum(edition != 1 for edition in goals)))

    def test_what_is_told_is_always_the_same(self):
        for _, *case in self.dice_cases(33, 10):
            book, server, speakers, goals = case
            self.assertEqual(plan(book, "aa", server, speakers, goals), plan(book, "aa", server, speakers, goals))


if __name__ == "__main__":
    unittest.main()
