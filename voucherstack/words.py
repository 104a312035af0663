"""The lines of a text, and the words of a line, which are read one behind the other."""

from voucherstack.errors import BadText, NoName, TooMany, Twice

LETTERS = "abcdefghijklmnopqrstuvwxyz"
FIGURES = "0123456789"
MOST_LETTERS = 12
MOST_FIGURES = 13
MOST_COINS = 1000000000000
KEPT_WORDS = (
    "kind", "under", "voucher", "off", "share", "line", "basket", "cheapest", "bundle", "carriage", "of", "needs",
    "most", "member", "once", "lone", "rule", "only", "never", "ahead", "behind", "back", "again", "shares", "ware",
    "special", "hold", "use", "best", "buy", "take", "unlike", "spill",
)


def rows_of(text):
    """A Row for each line that has words."""
    # The blank alone parts words: any other sign makes a word that can stand nowhere.
    rows = [Row(number, line.split(" ")) for number, line in enumerate(text.split("\n"), start=1)]
    return [row for row in rows if row.has_more()]


def is_name(word):
    return 1 <= len(word) <= MOST_LETTERS and is_made_of(word, LETTERS) and word not in KEPT_WORDS


def is_number(word):
    return 1 <= len(word) <= MOST_FIGURES and is_made_of(word, FIGURES) and (word == "0" or word[0] != "0")


def is_made_of(word, signs):
    return all([sign in signs for sign in word])


# Each method reads on from where the one before it stopped, so that the first word at fault is the one that decides.
class Row:
    def __init__(self, line, parts):
        self.line = line
        # Several blanks in a row, or some at an end of the line, leave parts without a sign.
        self.words = [part for part in parts if part != ""]
        self.passed = 0

    def has_more(self):
        return self.passed < len(self.words)

    def must_end(self):
        if self.has_more():
            raise BadText(self.line)

    def must_keep_to(self, most, many):
        if many > most:
            raise TooMany(self.line)

    def next_word(self):
        if not self.has_more():
            raise BadText(self.line)
        self.passed += 1
        return self.words[self.passed - 1]

    def next_of(self, choices):
        word = self.next_word()
        if word not in choices:
            raise BadText(self.line)
        return word

    def next_number(self, least, most):
        word = self.next_word()
        if not is_number(word) or not least <= int(word) <= most:
            raise BadText(self.line)
        return int(word)

    def next_coins(self):
        return self.next_number(0, MOST_COINS)

    def next_name(self):
        word = self.next_word()
        if not is_name(word):
            raise BadText(self.line)
        return word

    def next_new_name(self, taken):
        name = self.next_name()
        if name in taken:
            raise Twice(self.line)
        return name

    def next_named(self, names):
        """The number of what the next name is the name of."""
        name = self.next_name()
        if name not in names:
            raise NoName(self.line)
        return names.index(name)
