"""The desk: it keeps cues by names, a clock, settings and cuts, and answers rows.

The words of a row are looked at from the left to the right, and all of them
ahead of what is then done: so what is refused changes nothing.
"""

from cuetimer.clocks import Frames, Thousandths
from cuetimer.cues import read_cues, show_cues
from cuetimer.errors import NoName, NoNumber, NoParting, NoRow
from cuetimer.kinds import are_figures, is_name
from cuetimer.parting import parted
from cuetimer.places import moved_cues
from cuetimer.rules import broken, rules_of
from cuetimer.sides import best_break, join_cues, part_cue
from cuetimer.timed import least_price, timed_both, timed_cues

FIRST_SETTINGS = {"sign": 60, "least": 1000, "most": 7000, "apart": 80, "shy": 200, "begin": 2, "end": 1}
BOUNDS = {
    "sign": (0, 1000000000),
    "least": (1, 1000000000),
    "most": (0, 1000000000),
    "apart": (0, 1000000000),
    "shy": (1, 1000000000),
    "begin": (0, 99),
    "end": (0, 99),
}
# How many words a row has, by its first one. Those of clock and move hang on more than that.
HOW_MANY = {
    "set": 3, "cut": 2, "uncut": 2, "cues": 2, "drop": 2, "show": 2, "broken": 2, "price": 2, "time": 3, "both": 6,
    "rows": 5, "part": 3, "join": 3,
}


class Desk:
    def __init__(self):
        self.cues = {}
        self.clock = Thousandths()
        self.settings = dict(FIRST_SETTINGS)
        self.cuts = []

    def say(self, row):
        parts = words_and_text(row)
        words = parts[0]
        if not is_row(words):
            raise NoRow("there is no such row")
        if words[0] == "show":
            return show_cues(self.clock, self.cues_by(words[1]))
        if words[0] == "broken":
            return self.whys_of_broken(self.cues_by(words[1]))
        if words[0] == "price":
            return str(least_price(self.settings, self.cues_by(words[1]), self.cuts))
        if words[0] == "rows":
            return self.rows_of_cue(words)
        self.change(words, parts[1])
        return "ok"

    def change(self, words, text):
        first = words[0]
        if first == "clock":
            self.clock = read_clock(words)
        elif first == "set":
            self.change_setting(words)
        elif first == "cut":
            self.put_cut(self.clock.read(words[1]))
        elif first == "uncut":
            self.leave_cut(self.clock.read(words[1]))
        elif first == "cues":
            self.put_cues(words, text)
        elif first == "drop":
            self.drop_cues(words[1])
        elif first == "move":
            self.move_cues(words)
        elif first == "time":
            self.time_cues(words)
        elif first == "both":
            self.time_both(words)
        elif first == "part":
            self.part_at(words)
        else:
            self.join_at(words)

    def cues_by(self, name):
        if name not in self.cues:
            raise NoName("no cues stand by this name")
        return self.cues[name]

    def whys_of_broken(self, cues):
        rules = rules_of(self.settings, cues, self.cuts)
        whys = [show_why(rules[number][4]) for number in broken(rules, times_of(cues))]
        return ", ".join(whys) if whys else "none"

    def rows_of_cue(self, words):
        cues = self.cues_by(words[1])
        place = read_number(words[2], 0, len(cues) - 1)
        wide = read_number(words[3], 1, 100)
        most = read_number(words[4], 1, 5)
        return "\n".join(parted(cues[place][3], wide, most))

    def change_setting(self, words):
        if words[1] not in BOUNDS:
            raise NoName("there is no such setting")
        bounds = BOUNDS[words[1]]
        self.settings[words[1]] = read_number(words[2], bounds[0], bounds[1])

    def put_cut(self, moment):
        if moment not in self.cuts:
            self.cuts = sorted(self.cuts + [moment])

    def leave_cut(self, moment):
        self.cuts = [cut for cut in self.cuts if cut != moment]

    def put_cues(self, words, text):
        name = read_new(words[1])
        self.cues[name] = read_cues(self.clock, text)

    def drop_cues(self, name):
        self.cues_by(name)
        self.cues.pop(name)

    def move_cues(self, words):
        cues = self.cues_by(words[1])
        name = read_new(words[2])
        times = [self.clock.read(word) for word in words[3:]]
        places = [(times[at], times[at + 1]) for at in range(0, len(times), 2)]
        self.cues[name] = moved_cues(places, cues)

    def time_cues(self, words):
        cues = self.cues_by(words[1])
        name = read_new(words[2])
        self.cues[name] = timed_cues(self.settings, cues, self.cuts)

    def time_both(self, words):
        ones = self.cues_by(words[1])
        others = self.cues_by(words[2])
        within = read_number(words[3], 0, 1000000000)
        name = read_new(words[4])
        other_name = read_new(words[5])
        pairs = [(place, place) for place in range(min(len(ones), len(others)))]
        told = timed_both(self.settings, ones, others, pairs, within, self.cuts)
        self.cues[name] = told[0]
        self.cues[other_name] = told[1]

    def part_at(self, words):
        cues = self.cues_by(words[1])
        place = read_number(words[2], 0, len(cues) - 1)
        behind = cues[place + 1:]
        pair = part_cue(cues[place], best_break(cues[place][3]))
        if behind and behind[0][0] < pair[1][0]:
            raise NoParting("the next cue begins ahead of the second one")
        self.cues[words[1]] = cues[:place] + list(pair) + behind

    def join_at(self, words):
        cues = self.cues_by(words[1])
        place = read_number(words[2], 0, len(cues) - 2)
        cue = join_cues(cues[place], cues[place + 1])
        self.cues[words[1]] = cues[:place] + [cue] + cues[place + 2:]


def words_and_text(row):
    if not isinstance(row, str):
        raise NoRow("this is no text")
    parts = row.partition("\n")
    words = parts[0].split(" ")
    if words[0] == "cues":
        return (words, parts[2])
    return (row.split(" "), "")


def is_row(words):
    if words[0] == "clock":
        return words[1:] == ["thousandths"] or len(words) == 5 and words[1] == "frames"
    if words[0] == "move":
        return len(words) >= 5 and len(words) % 2 == 1
    return HOW_MANY.get(words[0]) == len(words)


def read_clock(words):
    if words[1] == "thousandths":
        return Thousandths()
    base = read_number(words[2], 1, 999)
    leave = read_number(words[3], 0, base - 1)
    every = read_number(words[4], 1, 60)
    return Frames((base, leave, every))


def read_new(word):
    if not is_name(word):
        raise NoName("this is no name")
    return word


def read_number(word, low, high):
    if not are_figures(word) or len(word) > 18 or word[0] == "0" and word != "0":
        raise NoNumber("this is no number")
    if not low <= int(word) <= high:
        raise NoNumber("this number lies beyond its bounds")
    return int(word)


def times_of(cues):
    times = [0]
    for cue in cues:
        times.extend([cue[0], cue[1]])
    return times


def show_why(why):
    return " ".join([str(part) for part in why])
