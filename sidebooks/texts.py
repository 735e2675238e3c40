"""Numbers, points, rows, wishes, questions, books and sayings as texts."""


def show_number(a):
    top, bottom = a
    return str(top) if bottom == 1 else f"{top}/{bottom}"


def show_point(point):
    return " ".join([show_number(x) for x in point])


def show_row(row):
    return show_wish(row)


def show_wish(wish):
    return "".join([_sign_of(wished) for wished in wish]) if wish else "."


def show_question(question):
    sides, wall = question
    return f"{_show_sides(sides)} : {wall}"


def show_book(book):
    d, questions = book
    return "\n".join([f"book {d}"] + [show_question(question) for question in questions])


def show_saying(saying):
    word, parts = saying[0], saying[1:]
    if word in ("not", "both", "either"):
        shown = [show_saying(part) for part in parts]
    else:
        shown = [f"[{_show_sides(parts[0])}]", str(parts[1])]
    return "(" + " ".join([word] + shown) + ")"


def _sign_of(wished):
    if wished is None:
        return "?"
    # The sign for -1 stands last.
    return "0+-"[wished]


def _show_sides(sides):
    return " ".join([str(side) for side in sides])
