"""A desk: a loop and a machine under changes."""
