// Package full: which boxes are full ahead of and behind each part of a program.
package full

import "steward/program"

// Around is which boxes are full on the two sides of a part.
type Around struct {
	Ahead  Set
	Behind Set
}

// finder narrows what it holds from pass to pass: what is behind a Loop, the set that its S begins with, is never less than the greatest that the loop may have.
type finder struct {
	parts  []program.Part
	around []Around
}

// Find tells the full boxes around each part of what program.Read gave.
func Find(parts []program.Part) []Around {
	f := finder{parts: parts, around: make([]Around, len(parts))}
	for i := 0; i < len(parts); i++ {
		f.around[i].Behind = all
	}
	// This ends, because each pass but the last takes a box from some loop's set. Narrowing all loops together, not the inner ones anew for each narrowing of an outer one, keeps the passes few.
	settled := false
	for !settled {
		settled = f.pass()
	}
	return f.around
}

// pass goes through the program once; it tells whether all loops kept their sets.
func (f *finder) pass() bool {
	settled := true
	now := Set(0)
	for i := 0; i < len(f.parts); i++ {
		part := f.parts[i]
		f.around[i].Ahead = now
		switch part.Kind {
		case program.Middle:
			now = f.around[part.Opener].Ahead
		case program.Join:
			now = now & f.around[part.Opener].Ahead
		case program.Loop:
			now = now & f.around[i].Behind
		case program.Again:
			set := f.around[part.Opener].Behind
			if set&now != set {
				settled = false
			}
			now = set & now
			f.around[part.Opener].Behind = now
		default:
			now = behind(part, now)
		}
		f.around[i].Behind = now
	}
	return settled
}

// behind tells which boxes are full behind a sentence that has no braces.
func behind(part program.Part, ahead Set) Set {
	switch part.Kind {
	case program.Make:
		return ahead.with(part.Box)
	case program.End:
		return ahead.without(part.Box)
	case program.Move:
		return move(part.Box, part.Source, ahead)
	}
	return ahead
}

// move needs no case of its own for V=V;: then what it takes out it puts in again.
func move(box int, source int, ahead Set) Set {
	rest := ahead.without(source)
	if ahead.Has(source) {
		return rest.with(box)
	}
	return rest.without(box)
}

// FirstEmpty tells the place of the first letter of a box that is used and not full, by what Find told of these parts; false if there is none.
func FirstEmpty(parts []program.Part, around []Around) (int, bool) {
	for i := 0; i < len(parts) && i < len(around); i++ {
		box, place, uses := parts[i].Used()
		if uses && !around[i].Ahead.Has(box) {
			return place, true
		}
	}
	return 0, false
}
