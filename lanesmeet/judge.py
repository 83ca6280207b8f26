"""The judge: whether one kernel tells, by a map, the story of another one at all sizes, behind every order."""

from lanesmeet.cases import MOST_CASES
from lanesmeet.cuts import zones_of
from lanesmeet.errors import NotOne, TooMany
from lanesmeet.finding import first_instance, second_instance, sizes_of
from lanesmeet.folding import NEVER
from lanesmeet.maps import check_map
from lanesmeet.needed import never_races
from lanesmeet.papers import is_tree_for
from lanesmeet.plain import has_just_keys, is_listing
from lanesmeet.prover import tree_for
from lanesmeet.sayings import first_point
from lanesmeet.verdicts import WORDS, Docket
from lanesmeet.ways import weighed
from lanesmeet.wording import free_in


def check_one(one, other):
    """Raises NotOne unless neither kernel ever has a race or is parted."""
    late = False
    for kernel in (one, other):
        try:
            if not never_races(kernel):
                raise NotOne("a kernel is parted or has a race at some sizes")
        except TooMany:
            late = True
    # What the other kernel has is told ahead of this.
    if late:
        raise TooMany(MOST_CASES)


def docket_for(one, other, chart):
    """What the judge asks, as pairs (word, keys with their rows), and the docket that tells the sayings."""
    check_map(one, other, chart)
    check_one(one, other)
    docket = Docket(one, other, chart)
    return docket, {word: docket.keys_for(word) for word in WORDS}


def judge_sayings(one, other, chart):
    """For each word its keys, ascending, each with the saying that holds where the word is to be told."""
    docket, asked = docket_for(one, other, chart)
    return {word: [(key, docket.saying_for(word, key, rows)) for key, rows in asked[word]] for word in WORDS}


class Finder:
    """Whether sayings hold somewhere: many keys have one saying, which is looked at once."""

    def __init__(self):
        self.empty = {}
        self.somewhere = {}

    def is_empty(self, rows):
        """Whether no numbers keep the rows."""
        key = tuple(rows)
        if key not in self.empty:
            self.empty[key] = weighed(rows, {})[0] is None
        return self.empty[key]

    def is_somewhere(self, saying):
        """Whether a saying holds somewhere."""
        key = repr(saying)
        if key not in self.somewhere:
            self.somewhere[key] = zones_of(saying, free_in(saying)) != []
        return self.somewhere[key]


def first_wrong(docket, asked):
    """The first word that is to be told, with its key and the first point of its saying; None if all is alike."""
    finder = Finder()
    for word in WORDS:
        for key, rows in asked[word]:
            if finder.is_empty(rows):
                continue
            saying = docket.saying_for(word, key, rows)
            if saying != NEVER and finder.is_somewhere(saying):
                return word, key, first_point(saying)
    return None


def judge(one, other, chart):
    """("alike",), or the first word that tells what is wrong, with sizes and instances that show it."""
    docket, asked = docket_for(one, other, chart)
    found = first_wrong(docket, asked)
    if found is None:
        return ("alike",)
    word, key, numbers = found
    kernel = one if word == "undone" else other
    told = (word, sizes_of(kernel, key[1][2], numbers), first_instance(kernel, key[0], key[1], numbers))
    if len(key) == 2:
        return told
    return told + (second_instance(kernel, key[2], key[3], numbers),)


def judge_papers(one, other, chart):
    """For each word a tree for each of its keys that shows that the saying holds nowhere; None unless all is alike."""
    docket, asked = docket_for(one, other, chart)
    if first_wrong(docket, asked) is not None:
        return None
    known = {}
    found = {}
    for word in WORDS:
        found[word] = []
        for key, rows in asked[word]:
            saying = docket.saying_for(word, key, rows)
            text = repr(saying)
            if text not in known:
                known[text] = tree_for([(saying, True)])
            found[word].append(known[text])
    return found


def are_judge_papers(one, other, chart, thing):
    """Whether thing has for each word a tree for each of its keys that shows that the saying holds nowhere."""
    docket, asked = docket_for(one, other, chart)
    if not has_just_keys(thing, WORDS):
        return False
    for word in WORDS:
        if not is_listing(thing[word]) or len(thing[word]) != len(asked[word]):
            return False
        for (key, rows), tree in zip(asked[word], thing[word]):
            if not is_tree_for([(docket.saying_for(word, key, rows), True)], tree):
                return False
    return True
