"""Pagelives: pages freed and used anew, and every stop of their store."""
