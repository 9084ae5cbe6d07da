"""Drawnbits: draws out of bits, and bits out of draws."""
