"""Boxproof: statements, the derivations that prove them, and the worlds in which they fail."""
