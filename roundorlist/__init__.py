"""Roundorlist: councils that take motions two by two by any table of wins."""
