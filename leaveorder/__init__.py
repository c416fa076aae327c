"""Webs whose places can leave one by one: see README.md."""
