"""[1], [4]: through all tools and back, by chance, beside the plain run of the texts."""

import random
import unittest

from byteround.apart import taken_apart
from byteround.assembling import assemble, made_by
from byteround.benchtexts import bench_text, read_bench
from byteround.carrying import patched
from byteround.desk import Desk
from byteround.dumping import dump
from byteround.errors import Beyond, NoEdition, NoEntry, NotCode, Twice, Untold
from byteround.imagebytes import image_bytes, read_image
from byteround.images import found_at, placed
from byteround.leads import leads, traced
from byteround.linking import join, link, reached
from byteround.linklooks import is_linked, shows_reached
from byteround.machine import Machine, run
from byteround.matching import same_program
from byteround.matchlooks import shows_same
from byteround.patches import fitted, patch_between, turned_back
from byteround.plainrun import play
from byteround.shelves import is_taken, laid, read_shelf, shelf_bytes, taken
from byteround.stripping import chart_bytes, read_chart, stripped, with_notes
from byteround.things import Unit
from byteround.unitbytes import moved, read_unit, unit_bytes
from tests.chance import chance_programs, chance_text, chance_unit, names_of

REFUSALS = (NoEntry, NotCode, Twice, Untold, Beyond)


def linked_ones(seed, many):
    """So many (units, entry, keep, image), units of which an image is linked."""
    chance = random.Random(seed)
    found = []
    while len(found) < many:
        units = [chance_unit(chance, k, 3, told=0.8, soft=0.95) for k in range(3)]
        names = [name for unit in units for part in unit.parts for name in part.told]
        if not names:
            continue
        entry, keep = chance.choice(names), [chance.choice(names) for _ in range(chance.randrange(3))]
        try:
            found.append((units, entry, keep, link(units, entry, keep=keep)))
        except REFUSALS:
            pass
    return found


class Whole(unittest.TestCase):
    def test_units_come_back(self):
        chance = random.Random(21)
        for _ in range(100):
            unit = Unit([chance_unit(chance, k, 2).parts[0] for k in range(chance.randrange(1, 3))])
            self.assertEqual(assemble(dump(unit)), unit)
            for edition in (1, 2, 3):
                try:
                    row = unit_bytes(unit, edition=edition)
                except NoEdition:
                    continue
                self.assertEqual(read_unit(row), unit)
                self.assertEqual(moved(moved(row, 3), edition), row)

    def test_each_byte_of_a_unit_leads_to_its_row(self):
        chance = random.Random(22)
        told = 0
        while told < 60:
            text = chance_text(chance, 0, names_of(0), names_of(1))
            rows = text.split("\n")
            if any(row.startswith("row ") for row in rows):
                continue
            try:
                unit = assemble(text)
            except ValueError:
                continue
            told += 1
            for row, (part, stretch, offset, many) in made_by(text).items():
                lines = unit.parts[part].stretches[stretch].lines
                for at in range(offset, offset + many):
                    self.assertEqual([line for begin, line in lines if begin <= at][-1], row)

    def test_links(self):
        for units, entry, keep, image in linked_ones(23, 60):
            self.assertEqual(link([join(units)], entry, keep=keep), image)
            self.assertEqual(link([join(units[:1]), join(units[1:])], entry, keep=keep), image)
            self.assertTrue(is_linked(join(units), entry, image, keep=keep))
            kept = reached(units, entry, keep=keep)
            self.assertTrue(shows_reached(units, entry, kept, keep=keep))
            self.assertEqual(len(kept), len(image.stretches))

    def test_images_come_back(self):
        for _, _, _, image in linked_ones(24, 60):
            self.assertEqual(read_image(image_bytes(image)), image)
            unit, entry, keep = taken_apart(image)
            again = link([unit], entry, keep=keep)
            self.assertEqual((again.data, again.stretches, again.holds, again.entry),
                             (image.data, image.stretches, image.holds, image.entry))
            for base in (16, 1000, 60000):
                led = [target for _, target in image.holds if target is not None]
                self.assertEqual(found_at(image, placed(image, base)), base if led else 16)

    def test_shelves(self):
        chance = random.Random(25)
        some = 0
        while some < 40:
            units = [chance_unit(chance, k, 4, told=0.9) for k in range(4)]
            names = units[0].parts[0].told
            if not names:
                continue
            shelves = [units[1:3], units[3:]]
            due = taken(units[:1], names[0], shelves=shelves)
            some += len(due) > 0
            self.assertTrue(is_taken(units[:1], names[0], due, shelves=shelves))
            whole = join(units[:1] + [shelves[shelf][number] for shelf, number, _, _ in due])
            self.assertEqual(laid(units[:1], names[0], shelves=shelves), whole)
            try:
                image = link(units[:1], names[0], shelves=shelves)
            except REFUSALS:
                continue
            self.assertEqual(link([whole], names[0]), image)
            self.assertEqual(read_shelf(shelf_bytes(units)), units)

    def test_one_program_in_whatever_order(self):
        for units, entry, keep, image in linked_ones(26, 60):
            try:
                other = link(units[::-1], entry, keep=keep)
            except REFUSALS:
                continue
            told = same_program(image, other)
            if told[0] == "apart":
                continue
            paper = dict(told[1])
            for inputs in ((), (1, 2, 3), (700,)):
                for most in (0, 3, 60):
                    mine, yours = run(image, inputs, most=most), run(other, inputs, most=most, base=40000)
                    where = mine[2]
                    if where is not None:
                        where = (paper[where[0]], where[1])
                    self.assertEqual(yours, (mine[0], mine[1], where, mine[3]))

    def test_runs_by_steps(self):
        for _, _, _, image in linked_ones(27, 60):
            whole = run(image, (5, 6, 7), most=200)
            machine = Machine(image, (5, 6, 7), base=500)
            steps = 0
            while steps < 200 and machine.outcome() is None:
                steps += machine.go_on()
            outcome = machine.outcome()
            how, where = ("going", None) if outcome is None else outcome
            self.assertEqual((machine.outputs(), how, where, steps), whole)
            self.assertEqual(sum(machine.tally().values()), steps)



def units_through(chance, units):
    """The units behind some tools: dumped and assembled, written and read, joined."""
    for _ in range(chance.randrange(5)):
        at = chance.randrange(len(units))
        tool = chance.choice(("dump", "write", "move", "join"))
        if tool == "dump":
            units = units[:at] + [assemble(dump(units[at], wide=chance.choice((1, 3, 16))))] + units[at + 1:]
        elif tool == "join":
            units = units[:at] + [join(units[at:at + 2])] + units[at + 2:]
        else:
            row = unit_bytes(units[at], edition=chance.choice([edition for edition in (1, 2, 3) if bears(units[at], edition)]))
            units = units[:at] + [read_unit(row if tool == "write" else moved(row, 3))] + units[at + 1:]
    return units


def bears(unit, edition):
    try:
        unit_bytes(unit, edition=edition)
    except NoEdition:
        return False
    return True


def image_through(chance, image):
    """The image behind some tools: written and read, stripped and noted, carried by patches."""
    for _ in range(chance.randrange(4)):
        tool = chance.choice(("write", "strip", "chart", "patch"))
        if tool == "write":
            image = read_image(image_bytes(image, edition=chance.choice((3, None))))
        elif tool == "patch":
            patch = patch_between(image.data, image.data[::-1])
            row = fitted(turned_back(patch), fitted(patch, image.data))
            image = patched(image, patch_between(image.data, row))
        else:
            bare, chart = stripped(image)
            image = with_notes(read_image(image_bytes(bare)), read_chart(chart_bytes(chart)) if tool == "chart" else chart)
    return image


def end_of_run(image, inputs, base, most):
    """What a run of the image tells; where by the part's name and the row."""
    outputs, how, where, steps = run(image, inputs, base=base, most=most)
    if where is not None and image.notes is not None:
        lead = leads(image, image.stretches[where[0]][0] + where[1])
        where = (image.notes[where[0]][1], lead[3])
    return (outputs, how, where, steps)


class Tools(unittest.TestCase):
    """For every row of tool steps the image tells what the plain run of the texts tells."""

    def plain(self, texts, entry, inputs, most):
        outputs, how, where, steps = play(texts, entry, inputs, most=most)
        return (outputs, how, where if where is None else ("p" + "abcdef"[where[0]], where[1]), steps)

    def runs(self, chance, texts, entry, image):
        for inputs in ((), (1, 2, 3), (40000, 0, 7, 9, 1)):
            most = chance.choice((0, 3, 40, 200))
            due = self.plain(texts, entry, inputs, most)
            base = chance.choice((16, 500, 41234))
            self.assertEqual(end_of_run(image, inputs, base, most), due)
            bare, _ = stripped(image)
            told = end_of_run(bare, inputs, base, most)
            self.assertEqual((told[0], told[1], told[3]), (due[0], due[1], due[3]))

    def test_rows_of_tools(self):
        chance = random.Random(31)
        for texts, entry in chance_programs(31, 60, parts=3):
            units = units_through(chance, [assemble(text) for text in texts])
            keep = [name for name in ("cax", "dby", "rcx") if chance.random() < 0.5]
            image = image_through(chance, link(units, entry, keep=keep))
            self.runs(chance, texts, entry, image)
            for base in (16, 3000):
                row = placed(image, base)
                self.assertEqual(found_at(image, row), base if any(target is not None for _, target in image.holds) else 16)
            # Taken apart and linked again, the same bytes; rows are lost with the notes.
            unit, name, more = taken_apart(image)
            again = link(units_through(chance, [unit]), name, keep=more)
            self.assertEqual((again.data, again.stretches, again.holds, again.entry),
                             (image.data, image.stretches, image.holds, image.entry))
            told, due = run(again, (1, 2, 3), most=100), play(texts, entry, (1, 2, 3), most=100)
            self.assertEqual((told[0], told[1], told[3]), (due[0], due[1], due[3]))

    def test_from_shelves(self):
        chance = random.Random(32)
        some = 0
        for texts, entry in chance_programs(32, 60, parts=3):
            # What is weak is on no shelf.
            texts = [text.replace("\nweak ", "\ntold ") for text in texts]
            units = [assemble(text) for text in texts]
            at = [k for k in range(3) if entry in units[k].parts[0].told][0]
            shelves = [read_shelf(shelf_bytes([unit])) for k, unit in enumerate(units) if k != at]
            chance.shuffle(shelves)
            first = units_through(chance, [units[at]])
            due = taken(first, entry, shelves=shelves)
            self.assertTrue(is_taken(first, entry, due, shelves=shelves))
            image = link(first, entry, shelves=shelves)
            self.assertTrue(is_linked(laid(first, entry, shelves=shelves), entry, image))
            some += len(due) > 0
            # Each byte leads to its row of its text, by the part's name.
            self.runs(chance, texts, entry, image_through(chance, image))
        self.assertGreater(some, 10)

    def test_each_byte_to_its_row_and_back(self):
        chance = random.Random(33)
        for texts, entry in chance_programs(33, 30, parts=2):
            texts = ["\n".join(row for row in text.split("\n") if not row.startswith("row ")) for text in texts]
            units = [assemble(text) for text in texts]
            image = image_through(chance, link(units_through(chance, units), entry))
            begins = {(note[0], note[2]): begin for note, (begin, _, _, _) in zip(image.notes, image.stretches)}
            owners = {}
            for number, text in enumerate(texts):
                for row, (part, stretch, offset, many) in made_by(text).items():
                    name = units[number].parts[part].stretches[stretch].name
                    if (number, name) not in begins:
                        self.assertEqual(traced(join(units), image, number, row), ("left", [name]))
                        continue
                    begin = begins[number, name] + offset
                    self.assertEqual(traced(join(units), image, number, row), ("bytes", [(begin, begin + many)]))
                    owners.update({at: (number, name, at - begins[number, name], row) for at in range(begin, begin + many)})
            self.assertEqual([leads(image, at) for at in range(len(image))], [owners.get(at) for at in range(len(image))])

    def test_papers_and_patches(self):
        for texts, entry in chance_programs(34, 30, parts=3):
            units = [assemble(text) for text in texts]
            image, other = link(units, entry), link(units[1:] + units[:1], entry, keep=["cax", "cby"])
            told = same_program(image, other)
            self.assertEqual(told[0], "same")
            self.assertTrue(shows_same(image, other, told[1][::-1]))
            for inputs in ((), (5, 6)):
                self.assertEqual(run(image, inputs)[:2], run(other, inputs, base=999)[:2])

    def test_on_a_desk(self):
        chance = random.Random(35)
        for texts, entry in chance_programs(35, 25, parts=3):
            desk = Desk()
            for number, text in enumerate(texts):
                name = "abc"[number]
                for row in [f"text t{name}"] + [f"row t{name} {row}" for row in text.split("\n")] + [f"assemble u{name} t{name}"]:
                    self.assertEqual(desk.say(row), "ok")
                if chance.random() < 0.5:
                    for row in (f"write r{name} u{name} 3", f"unit v{name} r{name}", f"dump d{name} v{name}", f"assemble u{name} t{name}"):
                        self.assertEqual(desk.say(row), "ok")
            self.assertEqual(desk.say(f"link i ua,ub,uc - {entry} -"), "ok")
            for row in ("strip n i", "chart h i", "noted m n h", "write w m -", "image j w"):
                self.assertEqual(desk.say(row), "ok")
            for inputs in ((), (4, 5, 6)):
                outputs, how, where, _ = play(texts, entry, inputs, most=99)
                ends = f"{' '.join(map(str, outputs)) or '-'}; {how}"
                rest = "".join(f" {number}" for number in inputs)
                self.assertEqual(desk.say("run n 99" + rest), ends)
                for name in "ij":
                    self.assertEqual(desk.say(f"run {name} 99" + rest), ends if where is None else f"{ends} {where[0]} {where[1]}")
            bench = read_bench(bench_text(desk.bench))
            self.assertEqual(bench, desk.bench)
            self.assertEqual(bench.thing_of("j"), desk.bench.thing_of("i"))


if __name__ == "__main__":
    unittest.main()
