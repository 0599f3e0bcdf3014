"""The base of the ways of sharing."""

from halfcrumb.asks import is_legal, reply_text
from halfcrumb.errors import Ended, NoHands, NoReply, NotEnded, NothingSaid
from halfcrumb.figures import is_whole_number
from halfcrumb.replay import Replay, Unanswered
from halfcrumb.shares import Share


def check_number(number, least, most):
    """Refuse a number of which a way cannot be made."""
    if not is_whole_number(number) or not least <= number <= most:
        raise NoHands(f"the number is one from {least} to {most}")


class Way:
    """A way of sharing, ask by ask.

    Each way stands beneath this class, makes itself of its word, its number and how many hands it has, and tells its
    own fresh and course. Only the replies are kept: where the way stands is found by going its course anew.
    """

    def __init__(self, word, number, size):
        self.word = word
        self.number = number
        self.size = size
        self.said = []
        self.unsaid = []
        self.ears = []

    def fresh(self):
        """Tell a new way of the same class, made with the same number."""
        raise NotImplementedError("each way tells its own")

    def course(self, replay):
        """Ask by replay.reply_to, one thing after the other; tell at the end for each hand a list of its spans."""
        raise NotImplementedError("each way tells its own")

    def gone(self):
        """Go the course; tell the log, what is due then or None, and what each hand gets then or None."""
        replay = Replay(self.said)
        try:
            dealt = self.course(replay)
        except Unanswered as waiting:
            return (replay.pairs, waiting.ask, None)
        return (replay.pairs, None, dealt)

    def due(self):
        """Tell the ask that comes next, or None at the end."""
        log, ask, dealt = self.gone()
        return ask

    def ended(self):
        """Tell whether nothing is due."""
        return self.due() is None

    def hands(self):
        """Tell how many hands there are."""
        return self.size

    def log(self):
        """Tell all (ask, reply) of the replies that stand."""
        log, ask, dealt = self.gone()
        return log

    def asked(self):
        """Tell for each hand how many of its replies stand."""
        counts = [0] * self.size
        for ask, reply in self.log():
            counts[ask[1]] += 1
        return counts

    def shares(self):
        """Tell the share of each hand, at the end."""
        log, ask, dealt = self.gone()
        if dealt is None:
            raise NotEnded(len(self.said))
        return [Share(spans) for spans in dealt]

    def answer(self, reply):
        """Add a reply to what is due."""
        ask = self.due()
        if ask is None:
            raise Ended("nothing is due")
        if not is_legal(ask, reply):
            raise NoReply(ask)
        self.said.append(reply)
        self.unsaid = []
        self.tell("answer", reply)

    def back(self):
        """Take the last reply away, and tell it."""
        if self.said == []:
            raise NothingSaid("no reply stands")
        reply = self.said.pop()
        self.unsaid.append(reply)
        self.tell("back", reply)
        return reply

    def again(self):
        """Add the reply that was taken away last, and tell it."""
        if self.unsaid == []:
            raise NothingSaid("no reply can be added again")
        reply = self.unsaid.pop()
        self.said.append(reply)
        self.tell("again", reply)
        return reply

    def twin(self):
        """Tell a way that stands just as this one does, and goes on by itself."""
        other = self.fresh()
        other.said = list(self.said)
        other.unsaid = list(self.unsaid)
        return other

    def heed(self, watcher, word):
        """Let a watcher hear by a word of what is done from now on, behind those that hear of it already."""
        self.ears.append((watcher, word))

    def ignore(self, watcher, word):
        """Let a watcher hear no more by a word."""
        self.ears.remove((watcher, word))

    def tell(self, deed, reply):
        """Tell all who watch what was done."""
        for watcher, word in self.ears:
            watcher.hear(deed, word, reply)

    def __len__(self):
        return len(self.said)

    def __eq__(self, other):
        if not isinstance(other, Way):
            return False
        # Each class has a word of its own.
        return self.word == other.word and self.number == other.number and self.said == other.said

    def __str__(self):
        return " ".join([f"{self.word} {self.number}:"] + [reply_text(reply) for reply in self.said])
