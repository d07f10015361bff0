"""Points 2 and 31: deeds run by a house."""

import unittest

from facehouse import errors
from facehouse.facetexts import read_face
from facehouse.house import House
from tests.plays import house
from tests.samples import any_things

VALUE = {"who": "ada", "sum": 5}
# Each word with parts that a house of plays does, behind the deeds that it takes.
WORDS = {"ask": 5, "carry": 2, "double": 2, "lose": 2, "work": 2, "tick": 1, "fall": 2, "rise": 2, "roll": 4, "settle": 1}
ASK = ("ask", "ada", "bank", 1, VALUE)


class RunTest(unittest.TestCase):
    def stands(self, made, runs, steps):
        self.assertEqual((made.runs, made.steps), (runs, steps))
        self.assertEqual((type(made.runs), type(made.steps)), (int, int))

    def test_all_deeds(self):
        made = house()
        self.stands(made, 0, 0)
        deeds = [
            ASK, ("double", 1), ("carry", 1), ("work", "bob"), ("lose", 2), ("tick",), ("fall", "ada"), ("rise", "ada"),
            ("roll", "ada", "bank", 1), ("settle",), ("tick",),
        ]
        kept = list(deeds)
        # A letter is sent again at the tick; of the answer and it both are carried, and the answer once more.
        self.assertEqual(made.run(deeds), ["ada1", 2, "queued", "done", None, 1, None, None, None, 3, 2])
        self.assertEqual(deeds, kept)
        self.stands(made, 1, 11)
        self.assertEqual((made.told("ada1"), made.clock(), made.store("bob")), (("lost",), 2, {"ada": 5}))

    def test_nothing_to_do(self):
        made = house()
        self.assertEqual(made.run([]), [])
        self.assertEqual(made.run(deeds=[], stop=False), [])
        self.stands(made, 2, 0)

    def test_sixty(self):
        made = house()
        self.assertEqual(made.run([("tick",)] * 60), list(range(1, 61)))
        self.stands(made, 1, 60)

    def test_by_word_and_count(self):
        for word, count in WORDS.items():
            for many in range(7):
                if many == count:
                    continue
                deed = (word,) + ("ada",) * (many - 1) if many else ()
                for thing in (deed, list(deed)):
                    self.no_deed(thing)
            self.no_deed([word] + ["ada"] * (count - 1))
            self.no_deed((word.upper(),) + ("ada",) * (count - 1))
            self.no_deed((word + " ",) + ("ada",) * (count - 1))
            self.no_deed(((word,),) + ("ada",) * (count - 1))
        for thing in any_things() + ["tick", "settle", ("told", "ada1"), ("run", []), ("net",), ("clock",), ("is_up", "ada"), (["tick"],), ({},), (None,), (1,)]:
            self.no_deed(thing)

    def no_deed(self, thing):
        made = house()
        for ahead in (0, 2):
            with self.assertRaises(errors.NoDeed) as caught:
                made.run([("tick",)] * ahead + [thing, ("tick",), "none"])
            self.assertEqual(caught.exception.at, ahead)
        self.stands(made, 2, 2)
        self.assertEqual(made.clock(), 2)
        self.assertEqual(made.run([("tick",), thing, ("tick",), thing], stop=False), [3, "NoDeed", 4, "NoDeed"])
        self.stands(made, 3, 4)

    def test_what_stands_behind_the_word_is_the_deeds_to_refuse(self):
        for thing in any_things():
            for word, name in (("carry", "NoLetter"), ("double", "NoLetter"), ("lose", "NoLetter"), ("work", "NoName"), ("fall", "NoName"), ("rise", "NoName")):
                self.one_refused((word, thing), name)
            self.one_refused(("ask", thing, thing, thing, thing), "NoName")
            self.one_refused(("ask", "ada", thing, thing, thing), "NoName")
            self.one_refused(("ask", "ada", "bank", thing, thing), "NoCall")
            self.one_refused(("ask", "ada", "bank", 1, thing), "NoValue")
            self.one_refused(("roll", thing, thing, thing), "NoName")
            self.one_refused(("roll", "ada", thing, thing), "NoRoll")

    def one_refused(self, deed, name):
        made = house()
        with self.assertRaises(getattr(errors, name)) as caught:
            made.run([("tick",), deed, ("tick",)])
        self.assertEqual(type(caught.exception).__name__, name)
        self.stands(made, 1, 1)
        self.assertEqual(made.clock(), 1)
        self.assertEqual(made.run([("tick",), deed, ("tick",)], stop=False), [2, name, 3])
        self.stands(made, 2, 3)

    def test_each_refusal_has_its_name(self):
        made = house()
        deeds = [
            ("ask", "zed", "bank", 1, VALUE), ("fall", "ada"), ASK, ("fall", "ada"), ("rise", "ada"), ("rise", "ada"),
            ("ask", "ada", "bank", 9, VALUE), ("ask", "ada", "bank", 1, {}), ("carry", 1), ("work", "bob"),
            ("roll", "ada", "bank", 9), "tick", ASK,
        ]
        self.assertEqual(made.run(deeds, stop=False), [
            "NoName", None, "Down", "Down", None, "Up", "NoCall", "NoValue", "NoLetter", "NoWork", "NoRoll", "NoDeed", "ada1",
        ])
        self.stands(made, 1, 3)

    def test_refusals_go_on_with_their_fields(self):
        for deed, error, field, thing in (
            (("ask", "zed", "bank", 1, VALUE), errors.NoName, "name", "zed"), (("carry", 7), errors.NoLetter, "number", 7),
            (("work", "bob"), errors.NoWork, "end", "bob"), (("rise", "bob"), errors.Up, "end", "bob"),
            (("roll", "ada", "bank", 2), errors.NoRoll, "why", ("edition",)), (("ask", "ada", "bank", 8, 1), errors.NoCall, "number", 8),
        ):
            made = house()
            with self.assertRaises(error) as caught:
                made.run([ASK, deed, ("tick",)])
            self.assertEqual(getattr(caught.exception, field), thing)
            # What those ahead did stays.
            self.assertEqual((made.open_asks("ada"), made.clock()), (["ada1"], 0))
            self.stands(made, 1, 1)

    def test_each_is_looked_at_as_its_turn_comes(self):
        made = house()
        with self.assertRaises(errors.NoLetter):
            made.run([("carry", 1), "none"])
        with self.assertRaises(errors.NoDeed) as caught:
            made.run([("tick",), "none", ("carry", 1)])
        self.assertEqual(caught.exception.at, 1)
        self.stands(made, 2, 1)

    def test_stop_as_it_is_told(self):
        made = house()
        with self.assertRaises(errors.NoDeed):
            made.run([1], stop=True)
        self.assertEqual(made.run([1], stop=False), ["NoDeed"])
        with self.assertRaises(TypeError):
            made.run([1], False)
        self.stands(made, 2, 0)

    def test_runs_do_what_the_methods_do(self):
        one, other = house(), house()
        self.assertEqual(one.run([ASK, ("settle",)]), [other.ask("ada", "bank", 1, VALUE), other.settle()])
        self.assertEqual(one.ledger(), other.ledger())
        self.stands(other, 0, 0)
        self.stands(one, 1, 2)

    def test_the_told_list_is_the_askers_own(self):
        made = house()
        deeds = [("tick",)]
        told = made.run(deeds)
        told.append(9)
        deeds.append(("tick",))
        self.assertEqual((made.clock(), made.run([("tick",)])), (1, [2]))

    def test_values_that_are_changed_behind_the_call(self):
        made = house()
        value = dict(VALUE)
        made.run([("ask", "ada", "bank", 1, value)])
        value["sum"] = 7
        made.run([("settle",)])
        self.assertEqual(made.told("ada1"), ("done", {"left": 5}))

    def test_rollings_are_run(self):
        face = "face bank {}\nrecord r\ncall 1 a r r"
        made = House(tuple(read_face(face.format(edition)) for edition in (1, 2)), (("ada", "bank", (("bank", 1),)),))
        self.assertEqual(made.run([("roll", "ada", "bank", 2), ("roll", "ada", "bank", 3)], stop=False), [None, "NoRoll"])
        self.assertEqual(made.speaks("ada"), (("bank", 2),))


if __name__ == "__main__":
    unittest.main()
