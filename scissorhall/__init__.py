"""Scissorhall: bodies cut into pieces and laid anew."""
