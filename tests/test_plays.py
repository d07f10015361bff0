"""Points 2, 3, 19 to 26, 29 and 31: houses played by long rows of deeds, held against a second reckoning."""

import collections
import unittest

from facehouse import errors
from tests.plays import dice_deed, dice_house, state_of
from tests.reference import dice_of
from tests.second import Refusal, repr_of

FIELDS = {"NoName": "name", "NoCall": "number", "Down": "end", "Up": "end", "NoLetter": "number", "NoWork": "end", "NoRoll": "why", "NoValue": None}
REFUSALS = tuple(getattr(errors, name) for name in FIELDS)


def model_tells(model, deed):
    """What a model tells of a deed: ("told", it) or ("refused", class, field)."""
    try:
        return "told", model.do(deed)
    except Refusal as refusal:
        return "refused", refusal.word, refusal.field


def house_tells(made, deed):
    """What a house tells of a deed, in the same form."""
    try:
        return "told", getattr(made, deed[0])(*deed[1:])
    except REFUSALS as refusal:
        name = type(refusal).__name__
        return "refused", name, getattr(refusal, FIELDS[name]) if FIELDS[name] else None


def promised(test, made, model):
    """What is promised over the whole, whatever was done."""
    ledger = made.ledger()
    keys = [row[3] for row in ledger]
    test.assertEqual(len(keys), len(set(keys)))
    came = {row[3]: row[8] for row in ledger}
    for end in model.names:
        for at, stand in enumerate(model.stands[end], 1):
            told = made.told(f"{end}{at}")
            if told[0] == "done":
                test.assertEqual(came[f"{end}{at}"], ("done", stand[4]))
            elif told[0] == "fault":
                test.assertEqual(came[f"{end}{at}"], told)
        test.assertEqual(made.store(end), model.store(end))


def brought_home(test, made, model):
    """That all asks come to their end once all ends are up and letters are carried till the waits are over."""
    for end in model.names:
        if end in model.down:
            test.assertEqual(house_tells(made, ("rise", end)), model_tells(model, ("rise", end)))
    for _ in range(sum(model.waits) * 4 + 4):
        for deed in (("settle",), ("tick",)):
            test.assertEqual(house_tells(made, deed), model_tells(model, deed))
    for end in model.names:
        test.assertEqual((made.open_asks(end), made.works(end)), ([], []))
        for at in range(1, len(model.stands[end]) + 1):
            test.assertNotEqual(made.told(f"{end}{at}"), ("open",))


class PlayTest(unittest.TestCase):
    def play(self, seed, houses, deeds, look_each):
        dice = dice_of(seed)
        counts = collections.Counter()
        for _ in range(houses):
            _, _, made, model = dice_house(dice)
            for turn in range(deeds):
                deed = dice_deed(dice, model)
                told = house_tells(made, deed)
                self.assertEqual(repr_of(told), repr_of(model_tells(model, deed)), deed)
                counts[deed[0], told[0]] += 1
                if told[0] == "refused":
                    counts[told[1]] += 1
                if told[0] == "refused" and told[1] == "NoRoll":
                    counts[told[2][0]] += 1
                if deed[0] in ("work", "carry") and told[0] == "told":
                    counts[told[1]] += 1
                if turn % look_each == 0:
                    self.assertEqual(repr_of(state_of(made, model)), repr_of(model.state()))
            self.assertEqual(repr_of(state_of(made, model)), repr_of(model.state()))
            promised(self, made, model)
            brought_home(self, made, model)
            self.assertEqual(repr_of(state_of(made, model)), repr_of(model.state()))
            promised(self, made, model)
        return counts

    def test_long_plays(self):
        counts = self.play(1, 60, 250, 25)
        words = ("again", "busy", "old", "told", "asked", "done", "fault", "queued", "lost")
        reasons = ("among", "talk", "letter", "key")
        refusals = ("NoName", "Down", "Up", "NoLetter", "NoWork", "NoRoll")
        for word in words + reasons + refusals:
            self.assertGreater(counts[word], 4, counts)

    def test_looked_at_behind_each_deed(self):
        self.play(2, 12, 120, 1)

    def test_runs_come_to_the_same(self):
        dice = dice_of(31)
        for _ in range(25):
            _, _, made, model = dice_house(dice)
            done = 0
            for run in range(4):
                deeds, expected = [], []
                for _ in range(dice.randrange(61)):
                    deed = dice_deed(dice, model) if dice.random() < 0.95 else dice.choice((None, (), ("tick", 1), ["tick"]))
                    deeds.append(deed)
                    if deed in (None, (), ("tick", 1), ["tick"]):
                        expected.append("NoDeed")
                        continue
                    told = model_tells(model, deed)
                    expected.append(told[1])
                    done += told[0] == "told"
                self.assertEqual(made.run(deeds, stop=False), expected)
                self.assertEqual((made.runs, made.steps), (run + 1, done))
            self.assertEqual(repr_of(state_of(made, model)), repr_of(model.state()))


if __name__ == "__main__":
    unittest.main()
