"""Cluewright: puzzles of squares, solved wholly, made and explained."""
