"""Kernels: the code of a plan, and whether it does what the loop does."""
