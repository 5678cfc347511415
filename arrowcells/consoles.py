"""Consoles: benches that are told lines."""

from arrowcells.benches import Bench
from arrowcells.errors import InvalidDeed, InvalidLine, NotABench
from arrowcells.fits import keeps
from arrowcells.kinds import number_in
from arrowcells.plans import plan_of
from arrowcells.programs import is_deed, program_or_none

# Numbers with more figures are not asked for.
MOST_NUMBER = 10 ** 50 * 10 ** 50
WORDS_WITH_TEXT = ("do", "run", "wish", "keeps")


class Console:
    """A console of a bench."""

    def __init__(self, bench):
        if not isinstance(bench, Bench):
            raise NotABench(bench)
        self.bench = bench

    def say(self, line):
        """Does a line, and tells the answer."""
        if not isinstance(line, str):
            raise InvalidLine(line)
        word, blank, text = line.partition(" ")
        if blank == "":
            return self.say_word(line)
        if word == "lift":
            index = number_in(text, MOST_NUMBER)
            if index is None:
                raise InvalidLine(line)
            self.bench.lift(index)
            return "done"
        if word not in WORDS_WITH_TEXT or text == "":
            raise InvalidLine(line)
        return self.say_text(word, text)

    def say_text(self, word, text):
        """Does a line of a word and a text."""
        if word == "keeps":
            return "yes" if keeps(self.bench.now, text) else "no"
        if word == "do":
            self.bench.do(_deed_in(text))
        elif word == "run":
            self.bench.run(text)
        else:
            self.bench.wish(text)
        return "done"

    def say_word(self, word):
        """Does a line of a single word."""
        if word == "undo":
            self.bench.undo()
            return "done"
        now = self.bench.now
        if word == "now":
            return now.text
        if word == "start":
            return self.bench.start.text
        if word == "plan":
            return plan_of(now).text
        if word == "lost":
            return str(plan_of(now).lost)
        if word == "many":
            return str(len(self.bench))
        if word == "log":
            return ", ".join(self.bench.log) or "none"
        if word == "wishes":
            return ", ".join(self.bench.wishes) or "none"
        raise InvalidLine(word)


def _deed_in(text):
    """The deed of the program of a single deed with this text."""
    tree = program_or_none(text)
    if tree is None or len(tree) != 1 or not is_deed(tree[0]):
        raise InvalidDeed(text)
    return tree[0]
