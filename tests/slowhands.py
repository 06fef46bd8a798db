"""The document's steps told once more, and otherwise: each hand is a run of Python that halts behind each step."""

from tests.samples import ENTRY_NAMES

MARK_OF = {"none": 0, "perhaps": 1, "sure": 2}
PHASES_OF = {"first": ["store", "spread"], "last": ["spread", "store"], "between": ["spread", "store", "spread"]}


class Cell:
    def __init__(self):
        self.kept = None
        self.mark = 0
        self.record = ()
        self.again = False
        self.holder = None


class SlowHands:
    """What hands do on a sheet by a book; turn lets one of them do a step."""

    def __init__(self, book, sheet, row, programs):
        self.says = dict(zip(ENTRY_NAMES, book))
        self.inputs, formulas = sheet
        self.formulas = {self.inputs + spot: formula for spot, formula in enumerate(formulas)}
        self.values = list(row)
        self.cells = {number: Cell() for number in self.formulas}
        self.entered = [set() for _ in range(self.inputs + len(formulas))]
        self.left = [list(program) for program in programs]
        self.tasks = [[] for _ in programs]
        self.told = None
        self.worked = {number: 0 for number in self.formulas}
        self.runs = [self.hand(hand) for hand in range(len(programs))]
        for run in self.runs:
            next(run)

    def standing(self):
        """The standing as the document writes it."""
        cells = tuple((cell.kept, cell.mark, cell.record, cell.again, cell.holder) for cell in self.cells.values())
        hands = tuple((tuple(left), tuple(tasks)) for left, tasks in zip(self.left, self.tasks))
        return tuple(self.values), cells, tuple(tuple(sorted(readers)) for readers in self.entered), hands

    def ended(self, hand):
        return not self.left[hand] and not self.tasks[hand]

    def can(self, hand):
        if self.ended(hand):
            return False
        task = self.tasks[hand][-1] if self.tasks[hand] else None
        if task is None or task[0] != "look" or task[1] < self.inputs or self.says["hands"] == "any":
            return True
        return self.cells[task[1]].holder in (None, hand)

    def turn(self, hand):
        """Let a hand do a step; what it tells."""
        self.told = None
        next(self.runs[hand], None)
        return self.told

    def hand(self, hand):
        tasks = self.tasks[hand]
        yield
        while self.left[hand]:
            deed = self.left[hand].pop(0)
            if deed[0] == "look":
                tasks.append(deed)
                self.told = yield from self.look(hand, tasks, deed[1])
            elif self.values[deed[1]] != deed[2]:
                tasks.append(("write", deed[1], deed[2], 0))
                yield from self.write(tasks, deed[1], deed[2])
            yield

    def write(self, tasks, x, v):
        phases = PHASES_OF[self.says["write"]]
        for done, phase in enumerate(phases, 1):
            yield
            tasks.pop()
            if done < len(phases):
                tasks.append(("write", x, v, done))
            if phase == "store":
                self.values[x] = v
            else:
                yield from self.spread(tasks, x, self.says["readers"])

    def spread(self, tasks, cell, word):
        waiting = [(cell, MARK_OF[word])]
        marking = []
        tasks.append(("spread", ((cell, MARK_OF[word]),), ()))
        while waiting or marking:
            yield
            if marking:
                reader, mark = marking.pop(0)
                if self.give(reader, mark):
                    waiting.append((reader, MARK_OF[self.says["further"]]))
            else:
                cell, mark = waiting.pop(0)
                marking = [(reader, mark) for reader in sorted(self.entered[cell]) if mark]
            tasks[-1] = ("spread", tuple(waiting), tuple(marking))
        tasks.pop()

    def give(self, number, mark):
        """Give a mark; whether spreading goes on from there."""
        cell = self.cells[number]
        had = cell.mark
        cell.mark = mark if mark > had else had
        cell.again = True
        if self.says["further"] == "none":
            return False
        return {"marked": had == 0, "unraised": cell.mark != had, "never": True}[self.says["stop"]]

    def look(self, hand, tasks, number):
        yield
        if number < self.inputs:
            tasks.pop()
            return self.values[number]
        cell = self.cells[number]
        word = ["answer", self.says["perhaps"], self.says["sure"]][cell.mark] if cell.kept is not None else "work"
        if word == "answer":
            tasks.pop()
            return cell.kept
        if self.says["hands"] == "one":
            cell.holder = hand
        cell.again = False
        if self.says["strike"] == "ahead":
            cell.mark = 0
        if word == "work" or (yield from self.check(hand, tasks, number)):
            yield from self.work(hand, tasks, number)
        yield
        if self.says["strike"] == "behind" or (self.says["strike"] == "unless" and not cell.again):
            cell.mark = 0
        cell.holder = None
        tasks.pop()
        return cell.kept

    def check(self, hand, tasks, number):
        """Check a cell; whether it needs work."""
        cell = self.cells[number]
        record = cell.record
        for place, (other, was) in enumerate(record):
            tasks[-1] = ("check", number, record, place)
            yield
            tasks.append(("look", other))
            now = yield from self.look(hand, tasks, other)
            tasks[-1] = ("compare", number, record, place, now)
            yield
            if (now != was) if self.says["check"] == "values" else (cell.mark == 2):
                return True
        tasks[-1] = ("end", number)
        return False

    def work(self, hand, tasks, number):
        left = self.formulas[number]
        reads = ()
        tasks[-1] = ("work", number, left, reads)
        while type(left) is tuple:
            other, branches = left
            yield
            tasks[-1] = ("ask", number, left, reads)
            if self.says["enter"] == "ahead":
                self.entered[other].add(number)
                yield
            tasks.append(("look", other))
            now = yield from self.look(hand, tasks, other)
            if self.says["enter"] == "behind":
                tasks[-1] = ("enter", number, left, reads, now)
                yield
                self.entered[other].add(number)
            reads += ((other, now),)
            left = branches[now] if now < len(branches) else branches[-1]
            tasks[-1] = ("work", number, left, reads)
        yield
        yield from self.keep(tasks, number, left, reads)

    def keep(self, tasks, number, value, reads):
        cell = self.cells[number]
        had = cell.kept
        cell.kept = value
        cell.record = reads
        self.worked[number] += 1
        if self.says["old"] == "struck":
            for other, readers in enumerate(self.entered):
                if other not in dict(reads):
                    readers.discard(number)
        tasks[-1] = ("end", number)
        if had not in (None, value) and self.says["change"] != "none":
            yield from self.spread(tasks, number, self.says["change"])
