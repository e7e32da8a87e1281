"""Operations and the loops that they make."""
