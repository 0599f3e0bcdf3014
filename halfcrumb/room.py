"""A room: hands with their tables, and runs of ways of sharing among them."""

from halfcrumb.errors import Ended, NoHand, NoHands, NoName, NoRun, NoWay, Seated, Taken
from halfcrumb.halving import Halving
from halfcrumb.history import History
from halfcrumb.honest import first_false, reply_by, run_by
from halfcrumb.names import is_name
from halfcrumb.onecuts import OneCuts
from halfcrumb.tabletext import read_table
from halfcrumb.threehands import ThreeHands
from halfcrumb.trimming import Trimming

WAY_WORDS = ("onecuts", "halving", "trimming", "threehands")


def check_new(name, kept):
    """Refuse a name by which nothing can be kept beside what is kept."""
    if not is_name(name):
        raise NoName("a name is one to eight small letters")
    if name in kept:
        raise Taken(name)


def all_but(kept, name):
    """Tell what is kept but for what that name stands for."""
    return {other: kept[other] for other in kept if other != name}


def new_way(word, many):
    """Tell a new way among so many hands; the cutter, where there is one, is the first."""
    if word == "halving":
        return Halving(many)
    if word == "trimming":
        return Trimming(many)
    way = OneCuts() if word == "onecuts" else ThreeHands()
    if way.hands() != many:
        raise NoHands(f"this way has {way.hands()} hands")
    return way


class Room:
    """Hands and runs, each by a name.

    The history keeps tuples of two dicts: the tables by the hands' names, and by the runs' names tuples of a way and of
    its hands' names. As no state is ever changed, a deed on a way is done on a twin of it.
    """

    def __init__(self):
        self.history = History(({}, {}))

    def seat(self, name, text):
        """Let a new hand come, with the table that a text tells."""
        tables, runs = self.history.now
        check_new(name, tables)
        self.history.go_on(({**tables, name: read_table(text)}, runs))

    def retell(self, name, text):
        """Give a hand the table that a text tells."""
        self.table(name)
        tables, runs = self.history.now
        self.history.go_on(({**tables, name: read_table(text)}, runs))

    def leave(self, name):
        """Let a hand go that no run has."""
        self.table(name)
        tables, runs = self.history.now
        for run in sorted(runs):
            if name in self.hands(run):
                raise Seated(run)
        self.history.go_on((all_but(tables, name), runs))

    def rename(self, name, new):
        """Give a hand a new name, also in each run that has it."""
        table = self.table(name)
        tables, runs = self.history.now
        check_new(new, tables)
        others = all_but(tables, name)
        renamed = {}
        for run, (way, names) in runs.items():
            renamed[run] = (way, tuple([new if other == name else other for other in names]))
        self.history.go_on(({**others, new: table}, renamed))

    def begin(self, run, word, names):
        """Begin a new run of a way, by its word, among the hands of these names."""
        tables, runs = self.history.now
        check_new(run, runs)
        if word not in WAY_WORDS:
            raise NoWay("this is the word of no way")
        for name in names:
            self.table(name)
        if len(set(names)) != len(names):
            raise NoHands("a hand stands twice in the list")
        self.keep_run(run, new_way(word, len(names)), names)

    def answer(self, run, reply):
        """Answer what is due in a run."""
        way = self.way(run)
        way.answer(reply)
        self.keep_run(run, way, self.hands(run))

    def honest(self, run):
        """Answer what is due in a run by the table of the asked hand, and tell the reply."""
        due = self.due(run)
        if due is None:
            raise Ended("nothing is due in this run")
        name, ask = due
        reply = reply_by(self.table(name), ask)
        self.answer(run, reply)
        return reply

    def finish(self, run):
        """Answer a run by the tables of its hands to its end, and tell how many replies that were."""
        way = self.way(run)
        if way.ended():
            raise Ended("nothing is due in this run")
        many = len(way)
        run_by(way, [self.table(name) for name in self.hands(run)])
        self.keep_run(run, way, self.hands(run))
        return len(way) - many

    def back(self, run):
        """Take the last reply of a run away, and tell it."""
        way = self.way(run)
        reply = way.back()
        self.keep_run(run, way, self.hands(run))
        return reply

    def again(self, run):
        """Add the reply to a run that was taken away last, and tell it."""
        way = self.way(run)
        reply = way.again()
        self.keep_run(run, way, self.hands(run))
        return reply

    def twin(self, run, new):
        """Begin a new run that stands just as one does, among the same hands."""
        way = self.way(run)
        tables, runs = self.history.now
        check_new(new, runs)
        self.keep_run(new, way, self.hands(run))

    def drop(self, run):
        """Let a run go."""
        self.run_of(run)
        tables, runs = self.history.now
        self.history.go_on((tables, all_but(runs, run)))

    def undo(self):
        """Let all stand as ahead of the last deed that is not undone yet."""
        self.history.go_back()

    def redo(self):
        """Let all stand as behind the deed that was undone last."""
        self.history.go_forth()

    def names(self):
        """Tell the names of the hands, sorted."""
        tables, runs = self.history.now
        return sorted(tables)

    def runs(self):
        """Tell the names of the runs, sorted."""
        tables, runs = self.history.now
        return sorted(runs)

    def hands(self, run):
        """Tell the names of a run's hands, in its order."""
        way, names = self.run_of(run)
        return list(names)

    def table(self, name):
        """Tell a hand's table."""
        tables, runs = self.history.now
        if name not in tables:
            raise NoHand(name)
        return tables[name]

    def way(self, run):
        """Tell a twin of a run's way."""
        way, names = self.run_of(run)
        return way.twin()

    def due(self, run):
        """Tell the name of the hand that is asked next in a run, and the ask, or None at its end."""
        way, names = self.run_of(run)
        ask = way.due()
        return None if ask is None else (names[ask[1]], ask)

    def share(self, run, name):
        """Tell the share of a hand in a run, at its end."""
        way, names = self.run_of(run)
        if name not in names:
            raise NoHand(name)
        return way.shares()[names.index(name)]

    def faith(self, run):
        """Tell for each hand of a run its name and where it was first false by its table as it is now, or None."""
        way, names = self.run_of(run)
        return [(name, first_false(way, hand, self.table(name))) for hand, name in enumerate(names)]

    def asked(self, name):
        """Tell how many replies of a hand stand in all runs together."""
        self.table(name)
        tables, runs = self.history.now
        return sum([way.asked()[names.index(name)] for way, names in runs.values() if name in names])

    def double(self):
        """Tell a room in which all stands as in this one, and which goes on by itself."""
        other = Room()
        other.history = self.history.branch()
        return other

    def run_of(self, run):
        """Tell a run's way, which is not to be changed, and its hands' names."""
        tables, runs = self.history.now
        if run not in runs:
            raise NoRun(run)
        return runs[run]

    def keep_run(self, run, way, names):
        """Keep, as a deed, a way that is not changed any more, among the hands of these names."""
        tables, runs = self.history.now
        self.history.go_on((tables, {**runs, run: (way, tuple(names))}))

    def __len__(self):
        return len(self.history.past)

    def __eq__(self, other):
        return isinstance(other, Room) and self.history.now == other.history.now
