"""The commands of the console, as texts: of which form they are, and how they tell their words.

The form of a command is told by its first word: a text with a letter for each word behind it. n is a name, t a text,
m a mark, k a number; a plus at the end stands for marks, as many as there are, perhaps none.
"""

from leaveorder.forms import is_text

FORMS = {
    "web": "nt", "leaving": "nt", "use": "n", "twin": "n", "forget": "n", "same": "n",
    "come": "+", "leave": "m", "tie": "mm", "untie": "mm", "draw": "mm", "move": "mk", "ease": "", "clear": "",
    "undo": "", "begin": "", "keep": "", "drop": "",
    "show": "", "marks": "", "row": "", "puts": "", "widths": "", "filled": "", "lots": "", "leavings": "",
    "where": "", "paper": "", "journal": "",
}
BETWEEN = "; "
RUN = "run "
SMALL = "abcdefghijklmnopqrstuvwxyz"
DIGITS = "0123456789"
LONGEST_NAME = 8
LONGEST_NUMBER = 4


def commands_told(value):
    """The list of the commands, each a list of its words, that a command or a run has; None if it is neither."""
    if not is_text(value):
        return None
    parts = value[len(RUN):].split(BETWEEN) if value.startswith(RUN) else [value]
    commands = [part.split(" ") for part in parts]
    return commands if all([is_command(words) for words in commands]) else None


def is_command(words):
    """Whether these are the words of a command that is no run."""
    if words[0] not in FORMS:
        return False
    form = FORMS[words[0]]
    if form == "+":
        return all([is_number(word) for word in words[1:]])
    return len(words) == 1 + len(form) and all([is_word(sign, word) for sign, word in zip(form, words[1:])])


def is_word(sign, word):
    """Whether the word is one that the letter of a form stands for."""
    if sign == "n":
        return is_name(word)
    if sign == "t":
        return word != ""
    return is_number(word)


def is_name(word):
    """Whether the word is a name: 1 to 8 small letters."""
    return 1 <= len(word) <= LONGEST_NAME and all([sign in SMALL for sign in word])


def is_number(word):
    """Whether the word is a number: 1 to 4 digits without needless zeros ahead."""
    if not 1 <= len(word) <= LONGEST_NUMBER or not all([sign in DIGITS for sign in word]):
        return False
    return word == "0" or word[0] != "0"


def deed_told(words):
    """The deed, as live webs tell it, of the words of a command."""
    numbers = tuple([int(word) for word in words[1:]])
    return ("come", numbers) if words[0] == "come" else (words[0], *numbers)


def command_of(deed):
    """The command of a deed, as live webs tell it."""
    values = deed[1] if deed[0] == "come" else deed[1:]
    return with_blanks([deed[0], *values])


def with_blanks(parts):
    """The parts with blanks between them; none if there are none."""
    return " ".join([str(part) for part in parts]) if parts else "none"


def rows_told(rows, sign):
    """The rows with blanks between them, each with the sign between its parts; none if there are none."""
    return with_blanks([sign.join([str(part) for part in row]) for row in rows])
