"""Reading of bracketed texts, words parted by blanks."""


def read_brackets(text, close):
    """The one thing that stands in the text: a word, or what close makes of a bracket; None where there's none.

    Of each bracket, inner ones first, close gets the list of the words and of what it made of the brackets in it,
    led by a word; it tells None where it can make nothing. A word may be empty, or hold brackets where none may stand:
    who takes no such words reads just the texts in which all is parted by one blank.
    """
    around = []
    items = []
    for word in text.replace(")", " )").split(" "):
        if word == ")":
            made = close(items) if around else None
            if made is None:
                return None
            items = around.pop()
            items.append(made)
        elif word.startswith("("):
            around.append(items)
            items = [word[1:]]
        else:
            items.append(word)
    if around or len(items) != 1:
        return None
    return items[0]
