package isacheck

import "dovetail/api"

// The bounds of a relocation's numbers, and the widths of the two operands that a pair fills.
const (
	maxBytes  = 8
	maxSign   = 3
	maxSigned = 64
	maxAlign  = 30
	maxRound  = 1 << 32
	maxHi     = 63
	highBits  = 20
	lowBits   = 12
)

// linksRight says whether all is right that is told of symbols in operands: relocations, uses, relaxings, macros.
func linksRight(d api.Desc) bool {
	for _, x := range d.Rels {
		if !relRight(d, x) {
			return false
		}
	}
	for _, u := range d.Uses {
		if !useRight(d, u) {
			return false
		}
	}
	for _, x := range d.Relaxes {
		if !relaxRight(d, x) {
			return false
		}
	}
	for _, m := range d.Macros {
		if m.Rel != -1 && !patches(d, m.Rel) {
			return false
		}
	}
	return true
}

func relRight(d api.Desc, x api.Rel) bool {
	return placeRight(d, x) && checksRight(x) && (x.Kind == api.RelNone || formulaRight(x.Calc))
}

// placeRight says whether a relocation's kind is right, and what tells where its value is put.
func placeRight(d api.Desc, x api.Rel) bool {
	if x.Kind == api.RelInsn {
		return isPlace(x.Class, d.Classes) && x.Hi >= 0 && x.Hi <= maxHi && x.Lo >= 0 && x.Lo <= x.Hi && x.Hi-x.Lo+1 <= d.Classes[x.Class].Bits
	}
	if x.Hi != -1 {
		return false
	}
	switch x.Kind {
	case api.RelNone:
		return true
	case api.RelData:
		return x.Bytes >= 1 && x.Bytes <= maxBytes
	case api.RelPair:
		return hasBits(d, x.Class, highBits) && hasBits(d, x.Class2, lowBits)
	}
	return false
}

// hasBits says whether a number is the place of a class of so many bits.
func hasBits(d api.Desc, class, bits int) bool {
	return isPlace(class, d.Classes) && d.Classes[class].Bits == bits
}

// checksRight says whether a relocation's checks are right.
func checksRight(x api.Rel) bool {
	if x.Sign < 0 || x.Sign > maxSign {
		return false
	}
	if x.Sign != 0 && (x.Width < 1 || x.Width > maxSigned) {
		return false
	}
	return x.Align >= 0 && x.Align <= maxAlign && x.Round >= 0 && x.Round <= maxRound
}

// formulaRight says whether a formula is right.
func formulaRight(t api.Term) bool {
	if len(t.Kids) != formulaKids(t.Op) {
		return false
	}
	for _, k := range t.Kids {
		if !formulaRight(k) {
			return false
		}
	}
	return true
}

// formulaKids is how many parts a formula of an operation has; -1, if it isn't one of formulas.
func formulaKids(op int) int {
	switch op {
	case api.OpConst, api.OpSym, api.OpAddend, api.OpPlace, api.OpGot, api.OpTp, api.OpGotTp:
		return 0
	case api.OpPage:
		return 1
	case api.OpAdd, api.OpSub:
		return 2
	}
	return -1
}

// patches says whether a number is the place of a relocation that puts a value somewhere.
func patches(d api.Desc, rel int) bool {
	return isPlace(rel, d.Rels) && d.Rels[rel].Kind != api.RelNone
}

func useRight(d api.Desc, u api.Use) bool {
	if !isPlace(u.Class, d.Classes) || !patches(d, u.Rel) {
		return false
	}
	x := d.Rels[u.Rel]
	return x.Kind != api.RelInsn || x.Class == u.Class
}

func relaxRight(d api.Desc, x api.Relaxed) bool {
	if !hasKind(d, x.Rel, api.RelPair) || !hasKind(d, x.To, api.RelInsn) || !isPlace(x.Form, d.Forms) {
		return false
	}
	for _, a := range d.Forms[x.Form].Args {
		if a.Class == d.Rels[x.To].Class {
			return true
		}
	}
	return false
}

// hasKind says whether a number is the place of a relocation of a kind.
func hasKind(d api.Desc, rel, kind int) bool {
	return isPlace(rel, d.Rels) && d.Rels[rel].Kind == kind
}
