"""Putback: views of a source, and the way back."""
