"""A desk: it keeps books by names, is told lines and answers each with a text."""

from wayneedle.atlas import refuse_unless_leg
from wayneedle.blame import blamed, question
from wayneedle.book import Book
from wayneedle.errors import NoBook, NoFit, NoLine, Twice
from wayneedle.fits import fits
from wayneedle.logs import is_name, is_sign
from wayneedle.maps import drawn
from wayneedle.sure import lots_left, surely
from wayneedle.texts import atlas_text, dealing_text, number_in, read_entry, read_log
from wayneedle.ways import road, sure_way

DONE = "done"

# The parts behind the first word of each line. OLD is a name that stands for a book, NEW one that stands for none.
FORMS = {
    "book": "NEW N N N N N N N N",
    "copy": "OLD NEW",
    "close": "OLD",
    "put": "OLD NAME LOG",
    "drop": "OLD NAME",
    "note": "OLD NAME ENTRY",
    "rename": "OLD NAME NAME",
    "refill": "OLD N N N N N N N N",
    "undo": "OLD",
    "again": "OLD",
    "stop": "OLD N",
    "books": "",
    "deeds": "OLD",
    "same": "OLD OLD",
    "text": "OLD",
    "fits": "OLD",
    "first": "OLD",
    "left": "OLD NAME N",
    "sure": "OLD SIGN SIGN",
    "drawn": "OLD NAME",
    "way": "OLD SIGN SIGN",
    "lead": "OLD NAME N SIGN SIGN",
    "blamed": "OLD",
    "question": "OLD",
    "watch": "OLD SIGN SIGN",
    "heard": "OLD N",
}


def part_in(form, word):
    """What the word tells as a part of this form; None where it has another form."""
    if form == "N":
        return number_in(word)
    if form == "SIGN":
        fit = is_sign(word)
    elif form in ("LOG", "ENTRY"):
        fit = word != ""
    else:
        fit = is_name(word)
    return word if fit else None


def parts_in(line):
    """The first word of the line, and pairs of the form of each other part and what it tells."""
    first = line.split(" ")[0]
    if first not in FORMS:
        raise NoLine(line)
    forms = FORMS[first].split()
    # A log and an entry are all that follows, with blanks of their own.
    whole = "LOG" in forms or "ENTRY" in forms
    words = line.split(" ", len(forms)) if whole else line.split(" ")
    parts = [part_in(form, word) for form, word in zip(forms, words[1:])]
    if len(words) != len(forms) + 1 or None in parts:
        raise NoLine(line)
    return first, list(zip(forms, parts))


def meant(form, part):
    """What the part of a line means: the log or the entry that it writes, else itself."""
    if form == "LOG":
        return read_log(part)
    if form == "ENTRY":
        return read_entry(part)
    return part


def words_or_none(words):
    """The words with blanks between, none where there are none."""
    return " ".join([str(word) for word in words]) or "none"


def so_text(so):
    """What is so of two signs, but for papers and dealings."""
    if so[0] == "apart":
        east, north = so[1]
        return f"apart {east} {north}"
    return so[0]


def letters_text(letters):
    """A row of letters, or a word where there are none or where it is None."""
    if letters is None:
        return "none"
    return "".join(letters) or "here"


def least_dealing(atlas):
    """The least dealing that fits."""
    found = fits(atlas, most=1)
    if not found:
        raise NoFit("no dealing fits")
    return found[0]


# Each of the functions that follow does what a line asks, of its parts as they are meant, and tells the answer.


def book_line(books, name, *box):
    books[name] = Book(box)
    return DONE


def copy_line(books, name, twin):
    books[twin] = books[name].copy()
    return DONE


def close_line(books, name):
    del books[name]
    return DONE


def books_line(books):
    return words_or_none(sorted(books))


def same_line(books, name, twin):
    return "yes" if books[name] == books[twin] else "no"


def put_line(book, name, log):
    book.put(name, log)
    return DONE


def drop_line(book, name):
    book.drop(name)
    return DONE


def note_line(book, name, entry):
    book.note(name, entry)
    return DONE


def rename_line(book, name, other):
    book.rename(name, other)
    return DONE


def refill_line(book, *box):
    book.refill(box)
    return DONE


def undo_line(book):
    book.undo()
    return DONE


def again_line(book):
    book.again()
    return DONE


def stop_line(book, number):
    book.stop(number)
    return DONE


def deeds_line(book):
    return str(len(book))


def text_line(book):
    return atlas_text(book.atlas())


def fits_line(book):
    return str(len(fits(book.atlas())))


def first_line(book):
    found = fits(book.atlas(), most=1)
    return dealing_text(found[0]) if found else "none"


def left_line(book, name, leg):
    atlas = book.atlas()
    refuse_unless_leg(atlas, name, leg)
    return words_or_none(lots_left(atlas)[atlas.legs().index((name, leg))])


def sure_line(book, one, other):
    return so_text(surely(book.atlas(), one, other))


def drawn_line(book, name):
    atlas = book.atlas()
    return drawn(atlas, least_dealing(atlas), name)


def way_line(book, one, other):
    atlas = book.atlas()
    return letters_text(road(atlas, least_dealing(atlas), one, other))


def lead_line(book, name, leg, one, other):
    return letters_text(sure_way(book.atlas(), name, leg, one, other))


def blamed_line(book):
    return ", ".join([" ".join(names) or "nobody" for names in blamed(book.atlas())])


def question_line(book):
    found = question(book.atlas())
    return "none" if found is None else words_or_none(found)


def watch_line(book, one, other):
    return str(book.watch(one, other))


def heard_line(book, number):
    return ", ".join([so_text(so) for so in book.heard(number)])


# These are told the desk's books by names, the others the one book that their first part stands for.
OF_ALL_BOOKS = {
    "book": book_line,
    "copy": copy_line,
    "close": close_line,
    "books": books_line,
    "same": same_line,
}

OF_ONE_BOOK = {
    "put": put_line,
    "drop": drop_line,
    "note": note_line,
    "rename": rename_line,
    "refill": refill_line,
    "undo": undo_line,
    "again": again_line,
    "stop": stop_line,
    "deeds": deeds_line,
    "text": text_line,
    "fits": fits_line,
    "first": first_line,
    "left": left_line,
    "sure": sure_line,
    "drawn": drawn_line,
    "way": way_line,
    "lead": lead_line,
    "blamed": blamed_line,
    "question": question_line,
    "watch": watch_line,
    "heard": heard_line,
}


class Desk:
    """Books by names, at first none; it is told lines."""

    def __init__(self):
        self.books = {}

    def refuse_unless_named(self, parts):
        """Refuse the first name that should stand for a book and stands for none, then one that should for none."""
        for form, part in parts:
            if form == "OLD" and part not in self.books:
                raise NoBook(part)
        for form, part in parts:
            if form == "NEW" and part in self.books:
                raise Twice(part)

    def tell(self, line):
        """The answer to the line."""
        first, parts = parts_in(line)
        self.refuse_unless_named(parts)
        told = [meant(form, part) for form, part in parts]
        if first in OF_ALL_BOOKS:
            answer = OF_ALL_BOOKS[first]
            return answer(self.books, *told)
        name, *rest = told
        answer_of_one = OF_ONE_BOOK[first]
        return answer_of_one(self.books[name], *rest)
