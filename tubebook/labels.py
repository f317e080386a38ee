"""Labels: rows of bytes that may name a rack or a tube."""

LONGEST_LABEL = 12


def is_label_byte(byte):
    if ord("A") <= byte <= ord("Z") or ord("a") <= byte <= ord("z"):
        return True
    return ord("0") <= byte <= ord("9") or byte == ord("-")


def is_label(row):
    return 1 <= len(row) <= LONGEST_LABEL and all([is_label_byte(byte) for byte in row])
