"""The lines that a desk is told of the room in use, and how they are answered.

Each line is a first word and the words behind it.
"""

from halfcrumb.asks import reply_text
from halfcrumb.fractions import read_fraction

DONE = "done"
NONE = "none"
# For each first word the least and the greatest count of words behind it; None where there may be any more.
COUNTS = {
    "seat": (2, None), "retell": (2, None), "leave": (1, 1), "rename": (2, 2), "begin": (4, 6), "answer": (2, 2),
    "twin": (2, 2), "drop": (1, 1), "undo": (0, 0), "redo": (0, 0), "honest": (1, 1), "back": (1, 1),
    "again": (1, 1), "finish": (1, 1), "hands": (0, 0), "runs": (0, 0), "table": (1, 1), "way": (1, 1),
    "due": (1, 1), "share": (2, 2), "faith": (1, 1), "asked": (1, 1), "same": (1, 1), "copy": (1, 1),
    "use": (1, 1), "rooms": (0, 0),
}


def has_form(words):
    """Tell whether a line of these words has one of the forms."""
    if words[0] not in COUNTS or "" in words:
        return False
    least, most = COUNTS[words[0]]
    many = len(words) - 1
    return least <= many and (most is None or many <= most)


def joined(texts):
    """Tell texts parted by blanks, or that there are none."""
    return NONE if texts == [] else " ".join(texts)


def meant_reply(due, fraction):
    """Tell the reply that a written fraction is meant as where that is due: a whole one may be a place or a number."""
    if due is None or fraction[1] != 1:
        return fraction
    name, ask = due
    return fraction if ask[0] in ("cut", "even") else fraction[0]


def seat_line(room, words):
    """Answer the line seat NAME TABLE."""
    room.seat(words[0], " ".join(words[1:]))
    return DONE


def retell_line(room, words):
    """Answer the line retell NAME TABLE."""
    room.retell(words[0], " ".join(words[1:]))
    return DONE


def leave_line(room, words):
    """Answer the line leave NAME."""
    room.leave(words[0])
    return DONE


def rename_line(room, words):
    """Answer the line rename NAME NAME."""
    room.rename(words[0], words[1])
    return DONE


def begin_line(room, words):
    """Answer the line begin RUN WAY NAME .."""
    room.begin(words[0], words[1], words[2:])
    return DONE


def answer_line(room, words):
    """Answer the line answer RUN REPLY."""
    # Read ahead of all that the room refuses.
    fraction = read_fraction(words[1])
    room.answer(words[0], meant_reply(room.due(words[0]), fraction))
    return DONE


def twin_line(room, words):
    """Answer the line twin RUN RUN."""
    room.twin(words[0], words[1])
    return DONE


def drop_line(room, words):
    """Answer the line drop RUN."""
    room.drop(words[0])
    return DONE


def undo_line(room, words):
    """Answer the line undo."""
    room.undo()
    return DONE


def redo_line(room, words):
    """Answer the line redo."""
    room.redo()
    return DONE


def honest_line(room, words):
    """Answer the line honest RUN."""
    return reply_text(room.honest(words[0]))


def back_line(room, words):
    """Answer the line back RUN."""
    return reply_text(room.back(words[0]))


def again_line(room, words):
    """Answer the line again RUN."""
    return reply_text(room.again(words[0]))


def finish_line(room, words):
    """Answer the line finish RUN."""
    return str(room.finish(words[0]))


def hands_line(room, words):
    """Answer the line hands."""
    return joined(room.names())


def runs_line(room, words):
    """Answer the line runs."""
    return joined(room.runs())


def table_line(room, words):
    """Answer the line table NAME."""
    return str(room.table(words[0]))


def way_line(room, words):
    """Answer the line way RUN."""
    return str(room.way(words[0]))


def due_line(room, words):
    """Answer the line due RUN."""
    due = room.due(words[0])
    if due is None:
        return NONE
    name, ask = due
    return f"{name} {ask[0]}"


def share_line(room, words):
    """Answer the line share RUN NAME."""
    return str(room.share(words[0], words[1]))


def faith_line(room, words):
    """Answer the line faith RUN."""
    return " ".join([f"{name}:-" if number is None else f"{name}:{number}" for name, number in room.faith(words[0])])


def asked_line(room, words):
    """Answer the line asked NAME."""
    return str(room.asked(words[0]))


ANSWERS = {
    "seat": seat_line, "retell": retell_line, "leave": leave_line, "rename": rename_line, "begin": begin_line,
    "answer": answer_line, "twin": twin_line, "drop": drop_line, "undo": undo_line, "redo": redo_line,
    "honest": honest_line, "back": back_line, "again": again_line, "finish": finish_line, "hands": hands_line,
    "runs": runs_line, "table": table_line, "way": way_line, "due": due_line, "share": share_line,
    "faith": faith_line, "asked": asked_line,
}
