"""What several tests use."""

# The signs that a text handed in may have: 37 is the sign for hundredths.
SIGNS = [chr(code) for code in range(ord(" "), ord("~") + 1) if code != 37] + ["\n"]


def off_by_one_sign(text):
    """The text with one sign left out, put in or changed, at each place; some of these are the text itself."""
    for place in range(len(text) + 1):
        yield text[:place] + text[place + 1:]
        for sign in SIGNS:
            yield text[:place] + sign + text[place:]
            yield text[:place] + sign + text[place + 1:]
