"""Byteround: a tool chain of bytes, round and round."""
