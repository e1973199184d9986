package isacheck

import "dovetail/api"

// The most that a file and the bits of a class's values may have.
const (
	maxCount   = 64
	maxWidth   = 64
	maxRegBits = 6
	maxUnsBits = 62
	maxSgnBits = 64
)

// partsRight says whether all is right that forms are made of.
func partsRight(d api.Desc) bool {
	if d.Order != api.OrderWord && d.Order != api.OrderBytes {
		return false
	}
	if len(d.Files) > api.MaxFiles || len(d.Flags) > api.MaxFlags || len(d.Classes) > api.MaxClasses || len(d.Forms) > api.MaxForms {
		return false
	}
	for n := range d.Files {
		if !fileRight(d, n) {
			return false
		}
	}
	for n := range d.Classes {
		if !classRight(d, n) {
			return false
		}
	}
	return registersThere(d, d.Aliases) && registersThere(d, d.Regs)
}

// fileRight says whether a number is the place of a file that is right.
func fileRight(d api.Desc, n int) bool {
	if !isPlace(n, d.Files) {
		return false
	}
	f := d.Files[n]
	return f.Count >= 1 && f.Count <= maxCount && f.Width >= 1 && f.Width <= maxWidth && f.Zero >= -1 && f.Zero < f.Count
}

// registersThere says whether each name of a list is one of a register that is there.
func registersThere(d api.Desc, l []api.Alias) bool {
	for _, a := range l {
		if !isPlace(a.File, d.Files) || a.Num < 0 || a.Num >= d.Files[a.File].Count {
			return false
		}
	}
	return true
}

// classRight says whether a number is the place of a class that is right.
func classRight(d api.Desc, n int) bool {
	if !isPlace(n, d.Classes) {
		return false
	}
	c := d.Classes[n]
	switch c.Kind {
	case api.ClassReg:
		return registersRight(d, c)
	case api.ClassUns:
		return numbersRight(c, maxUnsBits)
	case api.ClassSgn, api.ClassPc, api.ClassNext:
		return numbersRight(c, maxSgnBits)
	}
	return false
}

func registersRight(d api.Desc, c api.Class) bool {
	if !fileRight(d, c.File) || c.Bits < 1 || c.Bits > maxRegBits || c.Shift != 0 || c.Plus < 0 {
		return false
	}
	// Plus is held against the room, for the last register's number might wrap round.
	return c.Plus <= d.Files[c.File].Count-1<<c.Bits
}

// numbersRight says whether a class of numbers is right, whose Bits and Shift may be so many together.
func numbersRight(c api.Class, most int) bool {
	// Shift is held against the room, for the sum might wrap round.
	return c.Bits >= 1 && c.Bits <= most && c.Shift >= 0 && c.Shift <= most-c.Bits && c.Plus == 0
}
