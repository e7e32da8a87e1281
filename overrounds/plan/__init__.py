"""Machines and plans."""
