"""Playsense: what a program means, told by plays."""
