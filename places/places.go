// Package places describes where and when moths are caught: squares of several sizes, regions of squares, and nights. It is layer 1: see shared/doc/01-places.md.
package places

import "noctuary/api"

// ValidSquare reports whether a square is valid.
func ValidSquare(s api.Square) bool {
	if s.Level < 0 || s.Level > api.MaxLevel {
		return false
	}
	side := 1 << (api.MaxLevel - s.Level)
	return s.X >= 0 && s.X < side && s.Y >= 0 && s.Y < side
}

// Parent returns the square of the next level in which a square lies.
func Parent(s api.Square) (api.Square, api.Errno) {
	if !ValidSquare(s) {
		return api.Square{}, api.ErrSquare
	}
	if s.Level == api.MaxLevel {
		return api.Square{}, api.ErrArg
	}
	return blur(s, s.Level+1), api.OK
}

// Children returns the four squares whose parent a square is, in order of Y, then X.
func Children(s api.Square) ([]api.Square, api.Errno) {
	if !ValidSquare(s) {
		return nil, api.ErrSquare
	}
	if s.Level == 0 {
		return nil, api.ErrArg
	}
	return children(s), api.OK
}

// Within reports whether a lies in b.
func Within(a, b api.Square) (bool, api.Errno) {
	if !ValidSquare(a) || !ValidSquare(b) {
		return false, api.ErrSquare
	}
	return within(a, b), api.OK
}

// Blur returns the square of a level in which a square lies.
func Blur(s api.Square, level int) (api.Square, api.Errno) {
	if !ValidSquare(s) {
		return api.Square{}, api.ErrSquare
	}
	if level < s.Level || level > api.MaxLevel {
		return api.Square{}, api.ErrArg
	}
	return blur(s, level), api.OK
}

// blur is Blur of a valid square and a level that is right.
func blur(s api.Square, level int) api.Square {
	up := level - s.Level
	return api.Square{Level: level, X: s.X >> up, Y: s.Y >> up}
}

// within is Within of two valid squares.
func within(a, b api.Square) bool {
	return a.Level <= b.Level && blur(a, b.Level) == b
}

// children is Children of a valid square that has some.
func children(s api.Square) []api.Square {
	level, x, y := s.Level-1, 2*s.X, 2*s.Y
	return []api.Square{
		{Level: level, X: x, Y: y},
		{Level: level, X: x + 1, Y: y},
		{Level: level, X: x, Y: y + 1},
		{Level: level, X: x + 1, Y: y + 1},
	}
}
