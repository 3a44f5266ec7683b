"""A book: an atlas that goes on by deeds, which can be taken back, and watches over lone signs."""

from wayneedle.atlas import Atlas
from wayneedle.errors import NoSign, NothingDone, NothingUndone, NoWatch
from wayneedle.fits import all_that_fit
from wayneedle.logs import is_lone
from wayneedle.sure import is_told, sure_among


class Watch:
    """A watch over two lone signs, and the words that were so of them, one behind another."""

    def __init__(self, one, other):
        self.one = one
        self.other = other
        self.words = []
        self.going = True

    def are_told(self, atlas):
        """Whether logs of the atlas tell both signs."""
        return is_told(atlas, self.one) and is_told(atlas, self.other)

    def so_in(self, atlas, found):
        """What is so of the two signs in the atlas, of which these dealings fit, each with its weave."""
        if not self.are_told(atlas):
            return ("untold",)
        so = sure_among(atlas, found, self.one, self.other)
        return so if so[0] == "apart" else so[:1]

    def hear(self, atlas, found):
        """Put what is so to the words, where it is not what stands last."""
        so = self.so_in(atlas, found)
        if not self.words or self.words[-1] != so:
            self.words.append(so)

    def twin(self):
        """A watch of its own that stands as this one does."""
        watch = Watch(self.one, self.other)
        watch.words = list(self.words)
        watch.going = self.going
        return watch


def pairs_of(atlas):
    """The names of the atlas with their logs."""
    return list(zip(atlas.names, atlas.logs))


def listen(atlas, watches):
    """Let these watches hear what is so in the atlas."""
    # What fits is reckoned once for all of them, and only where it is asked.
    found = all_that_fit(atlas) if any([watch.are_told(atlas) for watch in watches]) else []
    for watch in watches:
        watch.hear(atlas, found)


class Book:
    """An atlas that goes on by deeds."""

    def __init__(self, box):
        self.now = Atlas(box)
        # The atlases ahead of the deeds that stand, and those behind the deeds that were taken back, the next one last.
        self.past = []
        self.future = []
        self.watches = []

    def turn_to(self, atlas):
        """Hold this atlas from now on, and let all watches that go on hear of it."""
        self.now = atlas
        listen(atlas, [watch for watch in self.watches if watch.going])

    def do(self, atlas):
        """Do the deed that leads to this atlas."""
        self.past.append(self.now)
        self.future = []
        self.turn_to(atlas)

    def put(self, name, log):
        """A walker more."""
        self.do(Atlas(self.now.box, [*pairs_of(self.now), (name, log)]))

    def drop(self, name):
        """The walker is left out."""
        self.do(self.now.without(name))

    def note(self, name, entry):
        """The entry stands at the end of the walker's log."""
        self.do(self.now.with_log(name, (*self.now.log(name), entry)))

    def rename(self, name, other):
        """The walker is called other."""
        log = self.now.log(name)
        # While the walker still has its old name, that name is taken, too.
        self.do(Atlas(self.now.box, [*pairs_of(self.now), (other, log)]).without(name))

    def refill(self, box):
        """The box is another one."""
        self.do(Atlas(box, pairs_of(self.now)))

    def undo(self):
        """Take the last deed back that stands."""
        if not self.past:
            raise NothingDone("no deed stands")
        self.future.append(self.now)
        self.turn_to(self.past.pop())

    def again(self):
        """Do the deed one more time that was taken back last."""
        if not self.future:
            raise NothingUndone("no deed was taken back")
        self.past.append(self.now)
        self.turn_to(self.future.pop())

    def atlas(self):
        """The atlas as it stands."""
        return self.now

    def copy(self):
        """Another book that stands as this one does."""
        book = Book(self.now.box)
        book.now = self.now
        book.past = list(self.past)
        book.future = list(self.future)
        book.watches = [watch.twin() for watch in self.watches]
        return book

    def watch(self, one, other):
        """Set a watch over the two lone signs; its number."""
        for sign in (one, other):
            if not is_lone(sign):
                raise NoSign(sign)
        watch = Watch(one, other)
        listen(self.now, [watch])
        self.watches.append(watch)
        return len(self.watches) - 1

    def watch_of(self, number):
        """The watch of this number."""
        if not 0 <= number < len(self.watches):
            raise NoWatch(number)
        return self.watches[number]

    def heard(self, number):
        """What was so of the watch of this number, one behind another."""
        watch = self.watch_of(number)
        return tuple(watch.words)

    def stop(self, number):
        """From now on nothing is put to the watch of this number."""
        watch = self.watch_of(number)
        watch.going = False

    def __eq__(self, other):
        return isinstance(other, Book) and self.now == other.now

    def __len__(self):
        return len(self.past)
