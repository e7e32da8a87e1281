"""Files of registers, and the values that they hold."""
