"""Noteworth: notes whose worth hangs on their neighbours."""
