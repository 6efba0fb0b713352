"""Slidebox: words put into boxes, and what stays when they are changed."""
