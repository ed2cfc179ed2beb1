"""Surebook: offers at a fair, fair or beaten, reckoned in exact ratios."""
