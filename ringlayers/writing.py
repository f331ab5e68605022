"""Sheets as texts: each piece as I-O@B+W, with a blank between each two."""

NO_PIECES = "none"


def written(sheet):
    if len(sheet) == 0:
        return NO_PIECES
    return " ".join([written_piece(piece) for piece in sheet])


def written_piece(piece):
    inner = piece[0]
    outer = piece[1]
    begin = piece[2]
    wide = piece[3]
    return f"{inner}-{outer}@{begin}+{wide}"
