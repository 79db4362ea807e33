"""Operations that make new systems and policies from others."""
