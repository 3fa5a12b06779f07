"""[4], as far as the modules that are here go: through all tools and back, by chance."""

import random
import unittest

from byteround.apart import taken_apart
from byteround.assembling import assemble, made_by
from byteround.dumping import dump
from byteround.errors import Beyond, NoEdition, NoEntry, NotCode, Twice, Untold
from byteround.imagebytes import image_bytes, read_image
from byteround.images import found_at, placed
from byteround.linking import join, link, reached
from byteround.linklooks import is_linked, shows_reached
from byteround.machine import Machine, run
from byteround.matching import same_program
from byteround.shelves import is_taken, laid, read_shelf, shelf_bytes, taken
from byteround.things import Unit
from byteround.unitbytes import moved, read_unit, unit_bytes
from tests.chance import chance_text, chance_unit, names_of

REFUSALS = (NoEntry, NotCode, Twice, Untold, Beyond)


def linked_ones(seed, many):
    """So many (units, entry, keep, image), units of which an image is linked."""
    chance = random.Random(seed)
    found = []
    while len(found) < many:
        units = [chance_unit(chance, k, 3, told=0.8, soft=0.95) for k in range(3)]
        names = [name for unit in units for part in unit.parts for name in part.told]
        if not names:
            continue
        entry, keep = chance.choice(names), [chance.choice(names) for _ in range(chance.randrange(3))]
        try:
            found.append((units, entry, keep, link(units, entry, keep=keep)))
        except REFUSALS:
            pass
    return found


class Whole(unittest.TestCase):
    def test_units_come_back(self):
        chance = random.Random(21)
        for _ in range(100):
            unit = Unit([chance_unit(chance, k, 2).parts[0] for k in range(chance.randrange(1, 3))])
            self.assertEqual(assemble(dump(unit)), unit)
            for edition in (1, 2, 3):
                try:
                    row = unit_bytes(unit, edition=edition)
                except NoEdition:
                    continue
                self.assertEqual(read_unit(row), unit)
                self.assertEqual(moved(moved(row, 3), edition), row)

    def test_each_byte_of_a_unit_leads_to_its_row(self):
        chance = random.Random(22)
        told = 0
        while told < 60:
            text = chance_text(chance, 0, names_of(0), names_of(1))
            rows = text.split("\n")
            if any(row.startswith("row ") for row in rows):
                continue
            try:
                unit = assemble(text)
            except ValueError:
                continue
            told += 1
            for row, (part, stretch, offset, many) in made_by(text).items():
                lines = unit.parts[part].stretches[stretch].lines
                for at in range(offset, offset + many):
                    self.assertEqual([line for begin, line in lines if begin <= at][-1], row)

    def test_links(self):
        for units, entry, keep, image in linked_ones(23, 60):
            self.assertEqual(link([join(units)], entry, keep=keep), image)
            self.assertEqual(link([join(units[:1]), join(units[1:])], entry, keep=keep), image)
            self.assertTrue(is_linked(join(units), entry, image, keep=keep))
            kept = reached(units, entry, keep=keep)
            self.assertTrue(shows_reached(units, entry, kept, keep=keep))
            self.assertEqual(len(kept), len(image.stretches))

    def test_images_come_back(self):
        for _, _, _, image in linked_ones(24, 60):
            self.assertEqual(read_image(image_bytes(image)), image)
            unit, entry, keep = taken_apart(image)
            again = link([unit], entry, keep=keep)
            self.assertEqual((again.data, again.stretches, again.holds, again.entry),
                             (image.data, image.stretches, image.holds, image.entry))
            for base in (16, 1000, 60000):
                led = [target for _, target in image.holds if target is not None]
                self.assertEqual(found_at(image, placed(image, base)), base if led else 16)

    def test_shelves(self):
        chance = random.Random(25)
        some = 0
        while some < 40:
            units = [chance_unit(chance, k, 4, told=0.9) for k in range(4)]
            names = units[0].parts[0].told
            if not names:
                continue
            shelves = [units[1:3], units[3:]]
            due = taken(units[:1], names[0], shelves=shelves)
            some += len(due) > 0
            self.assertTrue(is_taken(units[:1], names[0], due, shelves=shelves))
            whole = join(units[:1] + [shelves[shelf][number] for shelf, number, _, _ in due])
            self.assertEqual(laid(units[:1], names[0], shelves=shelves), whole)
            try:
                image = link(units[:1], names[0], shelves=shelves)
            except REFUSALS:
                continue
            self.assertEqual(link([whole], names[0]), image)
            self.assertEqual(read_shelf(shelf_bytes(units)), units)

    def test_one_program_in_whatever_order(self):
        for units, entry, keep, image in linked_ones(26, 60):
            try:
                other = link(units[::-1], entry, keep=keep)
            except REFUSALS:
                continue
            told = same_program(image, other)
            if told[0] == "apart":
                continue
            paper = dict(told[1])
            for inputs in ((), (1, 2, 3), (700,)):
                for most in (0, 3, 60):
                    mine, yours = run(image, inputs, most=most), run(other, inputs, most=most, base=40000)
                    where = mine[2]
                    if where is not None:
                        where = (paper[where[0]], where[1])
                    self.assertEqual(yours, (mine[0], mine[1], where, mine[3]))

    def test_runs_by_steps(self):
        for _, _, _, image in linked_ones(27, 60):
            whole = run(image, (5, 6, 7), most=200)
            machine = Machine(image, (5, 6, 7), base=500)
            steps = 0
            while steps < 200 and machine.outcome() is None:
                steps += machine.go_on()
            outcome = machine.outcome()
            how, where = ("going", None) if outcome is None else outcome
            self.assertEqual((machine.outputs(), how, where, steps), whole)
            self.assertEqual(sum(machine.tally().values()), steps)


if __name__ == "__main__":
    unittest.main()
