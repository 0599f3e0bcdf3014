"""Watchers, which hear of what is done on ways."""

from halfcrumb.errors import NoName, NoWord, Taken
from halfcrumb.names import is_name


class Watcher:
    """Ways that are watched, each by a word, and what was heard of them and not yet told."""

    def __init__(self):
        self.watched = {}
        self.news = []

    def watch(self, way, word):
        """Hear of a way by a word from now on."""
        if not is_name(word):
            raise NoName("a word is one to eight small letters")
        if word in self.watched:
            raise Taken(word)
        self.watched[word] = way
        way.heed(self, word)

    def leave(self, word):
        """Hear no more by a word."""
        if not is_name(word) or word not in self.watched:
            raise NoWord(word)
        way = self.watched.pop(word)
        way.ignore(self, word)

    def hear(self, deed, word, reply):
        """Keep what a way tells of itself till it is asked for."""
        self.news.append((deed, word, reply))

    def heard(self):
        """Tell all (deed, word, reply) that were heard since this was asked last."""
        news = self.news
        self.news = []
        return news
