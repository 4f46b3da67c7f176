"""The texts of messages, which are lists of bytes."""

BLANK = 32
ZERO = 48

# By the message's kind: its first piece, and what each piece behind that one tells.
FORMS = (
    ("ASK", "r", "no", "flight", "seats"),
    ("CAN", "r", "no"),
    ("ST", "r", "no", "version", "letter"),
    ("ACK", "r", "no", "version"),
)

# The least and the greatest that each number may be where a text is read; what isn't here is no number.
BOUNDS = {
    "r": (0, 3),
    "no": (1, 999),
    "flight": (1, 9999),
    "seats": (1, 9),
    "version": (1, 999999),
}

# For how a sale stands, from 1 on.
LETTERS = ("H", "W", "R", "C", "X")


def bytes_of(signs):
    """The bytes of a text that is written as signs."""
    return [ord(sign) for sign in signs]


def written(message):
    """The bytes of a message's text."""
    form = FORMS[message[0]]
    pieces = [form[0]]
    for name, number in zip(form[1:], message[1:]):
        pieces.append(str(number) if name in BOUNDS else LETTERS[number - 1])
    return bytes_of(" ".join(pieces))


def pieces_of(text):
    """The bytes between the blanks; a blank too many leaves an empty piece, which nothing reads."""
    pieces = [[]]
    for byte in text:
        if byte == BLANK:
            pieces.append([])
        else:
            pieces[-1].append(byte)
    return pieces


def read_number(piece, bounds):
    """The number within the bounds that the piece is, or None."""
    number = 0
    for byte in piece:
        number = number * 10 + byte - ZERO
    if number < bounds[0] or number > bounds[1]:
        return None
    # Written back, since bytes that are no digits, zeros before a number and an empty piece come to some number too.
    return number if bytes_of(str(number)) == piece else None


def read_letter(piece):
    """How the sale stands for which the piece is the letter, or None."""
    for at, letter in enumerate(LETTERS):
        if bytes_of(letter) == piece:
            return at + 1
    return None


def read_pieces(form, pieces):
    """The numbers that the pieces behind the first one tell, or None if one of them tells none."""
    numbers = []
    for name, piece in zip(form[1:], pieces[1:]):
        number = read_number(piece, BOUNDS[name]) if name in BOUNDS else read_letter(piece)
        if number is None:
            return None
        numbers.append(number)
    return numbers


def read_text(text):
    """The kind and the numbers of the message whose text this is, as a list, or None."""
    pieces = pieces_of(text)
    for kind, form in enumerate(FORMS):
        if bytes_of(form[0]) == pieces[0] and len(form) == len(pieces):
            numbers = read_pieces(form, pieces)
            return None if numbers is None else [kind] + numbers
    return None
