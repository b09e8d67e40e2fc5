"""Boxmoves: boxes with pictures, moves between them, reports with breaks."""
