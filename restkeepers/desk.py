"""A desk: things under names and claims under labels, changed by deeds that are taken back and done again."""

from restkeepers.answers import answer_about
from restkeepers.claims import contrary, copied, is_paper_of
from restkeepers.commands import DEEDS, is_deed, told_command
from restkeepers.errors import (
    CommandFailed,
    InvalidCommand,
    InvalidLines,
    InvalidPaper,
    LimitError,
    MissingError,
    NothingToRedo,
    NothingToUndo,
    RoomError,
    StateError,
    TooMany,
    UnknownName,
)
from restkeepers.pages import Page, answer_on, changes, claim_on, need_label, need_new, page_behind, with_things
from restkeepers.things import fresh

MOST_KEPT = 12
MOST_DEEDS = 300


class Setting:
    """All that a desk holds at one time; a setting never changes."""

    def __init__(self, page, papers, deeds, taken):
        self.page = page
        # Papers hang on labels alone, not on deeds: so they are no part of the page.
        self.papers = papers
        # Tuples of the line of a deed and the page ahead of it; of those that were taken back the page behind it.
        self.deeds = deeds
        self.taken = taken


class Desk:
    """Things and claims, and the deeds that made them."""

    def __init__(self):
        self._now = Setting(Page({}, {}), {}, (), ())

    @property
    def names(self):
        """The sorted list of the names under which something is kept."""
        return sorted(self._now.page.things)

    @property
    def labels(self):
        """The sorted list of the labels under which a claim is noted."""
        return sorted(self._now.page.claims)

    def do(self, command):
        """The answer to the command, which is done if it is a deed."""
        told = told_command(command)
        if told is None:
            raise InvalidCommand(command)
        word, behind = told
        if word == "undo":
            return self._undo()
        if word == "redo":
            return self._redo()
        page = self._now.page
        need_new(page, behind)
        found = with_things(page, behind)
        if word in DEEDS:
            return self._turn(command, page_behind(page, word, behind, found))
        answer = answer_on(page, word, found)
        return answer_about(word, found) if answer is None else answer

    def do_all(self, *commands):
        """The list of the answers to the commands; none has an effect if one fails."""
        now, answers = self._now, []
        for at, command in enumerate(commands):
            try:
                answers.append(self.do(command))
            except (RoomError, MissingError, StateError, LimitError) as cause:
                self._now = now
                raise CommandFailed(at) from cause
        return answers

    def attempt(self, *commands):
        """The list of the answers to the commands; all is as before behind them."""
        with Trial(self) as held:
            return held.do_all(*commands)

    def claim_of(self, label):
        """The claim under the label, with what is kept now; None while its state is gone."""
        page = self._now.page
        need_label(page, label)
        return claim_on(page.things, page.claims[label])

    def attach(self, label, paper):
        """Keep a paper of the label's claim, or of its contrary, with the label."""
        claim, now = self.claim_of(label), self._now
        if claim is None:
            raise InvalidPaper(paper)
        own = is_paper_of(claim, paper)
        if not own and not is_paper_of(contrary(claim), paper):
            raise InvalidPaper(paper)
        kept = (now.page.claims[label], own, copied(paper))
        self._now = Setting(now.page, {**now.papers, label: kept}, now.deeds, now.taken)

    def fits(self, label):
        """Whether the paper that is kept with the label is still one of what it was kept for."""
        claim, now = self.claim_of(label), self._now
        if claim is None or label not in now.papers:
            return False
        words, own, paper = now.papers[label]
        if words != now.page.claims[label]:
            return False
        return is_paper_of(claim if own else contrary(claim), paper)

    def lines(self):
        """The list of the lines of the deeds that are not taken back."""
        return [line for line, _ in self._now.deeds]

    def copy(self):
        """A desk with all that this one holds, that goes on by itself."""
        other = Desk()
        # A setting never changes: so both desks may hold the same one.
        other._now = self._now
        return other

    @classmethod
    def again(cls, lines):
        """A desk that has done these deeds."""
        if not isinstance(lines, (list, tuple)):
            raise InvalidLines(None)
        for at, line in enumerate(lines):
            if not is_deed(line):
                raise InvalidLines(at)
        desk = cls()
        desk.do_all(*lines)
        return desk

    def _turn(self, line, page):
        """The answer to the deed that leads to the page, which is the desk's from now on."""
        now = self._now
        if len(page.things) > MOST_KEPT:
            raise TooMany("names", MOST_KEPT)
        if len(page.claims) > MOST_KEPT:
            raise TooMany("labels", MOST_KEPT)
        if len(now.deeds) == MOST_DEEDS:
            raise TooMany("deeds", MOST_DEEDS)
        self._now = Setting(page, now.papers, now.deeds + ((line, now.page),), ())
        return changes(now.page, page)

    def _undo(self):
        """The line of the last deed, which is taken back."""
        now = self._now
        if not now.deeds:
            raise NothingToUndo()
        line, page = now.deeds[-1]
        self._now = Setting(page, now.papers, now.deeds[:-1], now.taken + ((line, now.page),))
        return line

    def _redo(self):
        """The line of the last deed that was taken back, which is done again."""
        now = self._now
        if not now.taken:
            raise NothingToRedo()
        line, page = now.taken[-1]
        self._now = Setting(page, now.papers, now.deeds + ((line, now.page),), now.taken[:-1])
        return line

    def __call__(self, command):
        return self.do(command)

    def __len__(self):
        return len(self._now.deeds)

    def __getitem__(self, name):
        if name not in self:
            raise UnknownName(name)
        return fresh(self._now.page.things[name])

    def __contains__(self, name):
        return isinstance(name, str) and name in self._now.page.things

    def __iter__(self):
        raise TypeError("a desk is not iterated over")


class Trial:
    """A block behind which all of the desk is as it was ahead of it."""

    def __init__(self, desk):
        self._desk = desk
        self._held = None

    def __enter__(self):
        self._held = self._desk._now
        return self._desk

    def __exit__(self, kind, value, trace):
        desk = self._desk
        desk._now = self._held


def tried(desk, action):
    """What the action returns for the desk, of which all is as before behind it."""
    with Trial(desk) as held:
        return action(held)
