"""Changes of loops and machines, and what they keep."""
