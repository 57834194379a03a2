"""Numbers as they are written in texts."""

FIGURES = "0123456789"
MOST_FIGURES = 9


def writes_number(text):
    if len(text) == 0 or len(text) > MOST_FIGURES:
        return False
    if text[0] == "0" and text != "0":
        return False
    return all([sign in FIGURES for sign in text])


def number_of(text):
    # int alone takes blanks, signs and underscores too, so the text is looked over first.
    return int(text) if writes_number(text) else None
