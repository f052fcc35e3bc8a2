"""Keel: a ship's cargo, kept upright."""
