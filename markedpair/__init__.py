"""Markedpair: tables of two ends that carry messages, judged for all rows of messages."""
