"""Likepieces: pieces of programs that are alike, and one function in their place."""
