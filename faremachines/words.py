"""Words, letters, logs and their texts ([1.2])."""

from faremachines.errors import BadForm, NotAllowed

MAX_WORD = 8
MAX_LETTERS = 4
MAX_LOG = 400
RESERVED = ("letters", "state", "move", "none")


def is_word(text):
    """Tell whether a text is a word."""
    small = all(["a" <= sign <= "z" for sign in text])
    return small and 1 <= len(text) <= MAX_WORD and text not in RESERVED


def are_letters(letters):
    """Tell whether a tuple of texts is letters."""
    if not 1 <= len(letters) <= MAX_LETTERS:
        return False
    return len(set(letters)) == len(letters) and all([is_word(letter) for letter in letters])


def check_letters(letters):
    """Raise NotAllowed if a tuple of texts is not letters."""
    if not are_letters(letters):
        raise NotAllowed("letters are 1 to 4 different words")


def is_log(letters, log):
    """Tell whether a tuple of texts is a log over the letters."""
    return len(log) <= MAX_LOG and all([letter in letters for letter in log])


def check_log(letters, log):
    """Raise NotAllowed if a tuple of texts is not a log over the letters."""
    if not is_log(letters, log):
        raise NotAllowed("a log has at most 400 letters, of those that were told")


def log_text(log):
    """Return the text of a log."""
    return " ".join(log)


def read_log(letters, text):
    """Return the log over the letters that has a text, with any spaces around its letters."""
    # A newline is no space: it stays in the part, which is then no letter.
    log = tuple([part for part in text.split(" ") if part != ""])
    if not is_log(letters, log):
        raise BadForm(1)
    return log
