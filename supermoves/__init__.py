"""supermoves: a card table whose every hint is exact."""
