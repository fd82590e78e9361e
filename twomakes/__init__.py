"""Twomakes: two makes of one mill, held side by side."""
