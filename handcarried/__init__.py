"""Handcarried: numbers that check themselves, and what people do to their copies."""
