"""Texts of loops, machines, plans, trees, spans and bases."""
