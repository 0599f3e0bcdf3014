"""A desk, which keeps rooms by words and is told lines."""

from halfcrumb.errors import NoLine, NoName, NoWord
from halfcrumb.lines import ANSWERS, DONE, has_form
from halfcrumb.names import is_name
from halfcrumb.room import Room

FIRST_WORD = "hall"


class Desk:
    """Rooms by their words, of which one is in use."""

    def __init__(self):
        self.kept = {FIRST_WORD: Room()}
        self.used = FIRST_WORD

    def told(self, line):
        """Do what a line tells, and answer it."""
        words = line.split(" ")
        if not has_form(words):
            raise NoLine(line)
        word = words[0]
        if word in ANSWERS:
            action = ANSWERS[word]
            return action(self.kept[self.used], words[1:])
        if word == "rooms":
            return self.rooms_text()
        if word == "copy":
            return self.keep_double(words[1])
        if word == "use":
            return self.use_room(words[1])
        return self.same_text(words[1])

    def room(self):
        """Tell a double of the room in use."""
        return self.kept[self.used].double()

    def rooms_text(self):
        """Tell the words of all rooms, with a star behind the one in use."""
        return " ".join([f"{word}*" if word == self.used else word for word in sorted(self.kept)])

    def keep_double(self, word):
        """Keep a double of the room in use by a word."""
        if not is_name(word):
            raise NoName("a word is one to eight small letters")
        self.kept[word] = self.room()
        return DONE

    def use_room(self, word):
        """Let the room of a word be in use."""
        self.check_word(word)
        self.used = word
        return DONE

    def same_text(self, word):
        """Tell whether the room of a word is equal to the one in use."""
        self.check_word(word)
        return "yes" if self.kept[word] == self.kept[self.used] else "no"

    def check_word(self, word):
        """Refuse a word by which no room is kept."""
        if word not in self.kept:
            raise NoWord(word)
