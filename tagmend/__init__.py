"""Tagmend: any text with tags read to one tree, and each mend told."""
