"""Laidwords: words laid on one another, and the shortest texts that hold them all."""
