"""Gatefold: nets of gates folded, cut and laid as tables."""
