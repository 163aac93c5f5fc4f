"""A fund's classes: one value, parted by whole shares. The calls are in unitclasses.fund."""
