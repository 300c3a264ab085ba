"""Safepatch: files of blocks that are changed write by write, and read as the old or the new text at any moment."""
