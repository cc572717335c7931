"""Eightsides: loops over whole numbers, gone through with shapes of eight sides."""
