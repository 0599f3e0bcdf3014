"""The replay of replies, by which a way finds out where it stands."""


class Unanswered(Exception):
    """No refusal: it tells the way that its course goes no further as yet."""

    def __init__(self, ask):
        super().__init__("no reply stands to this ask")
        self.ask = ask


class Replay:
    """Replies that are handed out one after the other, and what was asked for them."""

    def __init__(self, replies):
        self.replies = list(replies)
        self.pairs = []

    def reply_to(self, ask):
        """Tell the next reply; where there is none more, the ask is what is due."""
        if len(self.pairs) == len(self.replies):
            raise Unanswered(ask)
        reply = self.replies[len(self.pairs)]
        self.pairs.append((ask, reply))
        return reply
