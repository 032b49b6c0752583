"""Reading of bracketed texts, words parted by blanks."""


def read_brackets(text, close):
    """The one thing that stands in the text: a word, or what close makes of a bracket; None where there's none.

    Of each bracket, inner ones first, close gets the list of the words and of what it made of the brackets in it;
    it tells None where it can make nothing. Texts that are written a little otherwise may be read likewise:
    who needs just one writing writes the thing again and compares.
    """
    levels = [[]]
    for chunk in text.split(" "):
        word = chunk
        if chunk.startswith("("):
            levels.append([])
            word = chunk[1:]
        bare = word.rstrip(")")
        levels[-1].append(bare)
        for _ in range(len(word) - len(bare)):
            made = close(levels.pop())
            if made is None or not levels:
                return None
            levels[-1].append(made)
    if len(levels) != 1 or len(levels[0]) != 1:
        return None
    return levels[0][0]
