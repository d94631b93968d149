"""Handcarried: numbers that check themselves, what people do to their copies, and what can be built against it."""
