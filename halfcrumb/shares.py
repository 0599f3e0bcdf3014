"""Shares: what a hand holds of the loaf."""

from halfcrumb.fractions import fraction_text, minus, sum_of
from halfcrumb.spans import BEGIN, END, check_span, common_spans, gaps_of, told_spans


class Share:
    """The crumbs of some spans; single places count for nothing."""

    def __init__(self, spans):
        self.held = told_spans(spans)

    def spans(self):
        """Tell the few spans that hold just these crumbs, rising."""
        return list(self.held)

    def plus(self, other):
        """Tell the share of what this one or the other one holds."""
        return Share(self.held + other.held)

    def less(self, other):
        """Tell the share of what this one holds and the other one doesn't."""
        return Share(common_spans(self.held, gaps_of(other.held)))

    def both(self, other):
        """Tell the share of what both hold."""
        return Share(common_spans(self.held, other.held))

    def parted(self, place):
        """Tell the shares of what this one holds ahead of the place and behind it."""
        check_span(place, place)
        ahead = common_spans(self.held, [(BEGIN, place)])
        behind = common_spans(self.held, [(place, END)])
        return (Share(ahead), Share(behind))

    def length(self):
        """Tell how much of the loaf this is."""
        return sum_of([minus(there, here) for here, there in self.held])

    def worth(self, table):
        """Tell what this is worth by a table."""
        return sum_of([table.worth(here, there) for here, there in self.held])

    def __len__(self):
        return len(self.held)

    def __eq__(self, other):
        return isinstance(other, Share) and self.held == other.held

    def __str__(self):
        if self.held == []:
            return "none"
        return " ".join([f"{fraction_text(here)}-{fraction_text(there)}" for here, there in self.held])
