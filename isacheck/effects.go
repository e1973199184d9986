package isacheck

import "dovetail/api"

// maxTrap is the greatest number of a trap.
const maxTrap = 15

// effectsRight says whether a form's effects are right.
func effectsRight(d api.Desc, form int) bool {
	s := scope{d, d.Forms[form].Args}
	return s.allEffects(d.Forms[form].Sem)
}

func (s *scope) allEffects(l []api.Term) bool {
	for _, t := range l {
		if !s.effect(t) {
			return false
		}
	}
	return true
}

// effect says whether an effect is right.
func (s *scope) effect(t api.Term) bool {
	switch t.Op {
	case api.OpSet:
		// A register that isn't there has no width, and neither has a term that isn't right.
		w := s.registerWidth(t)
		return w > 0 && s.have(t.Kids, w)
	case api.OpSetFlag:
		return isPlace(t.A, s.Flags) && s.have(t.Kids, bit)
	case api.OpStore:
		return stored(t.W) && s.have(t.Kids, addressWidth, t.W)
	case api.OpJump:
		return s.have(t.Kids, addressWidth)
	case api.OpTrap:
		return t.A >= 1 && t.A <= maxTrap && s.have(t.Kids)
	case api.OpSys:
		return s.have(t.Kids)
	case api.OpWhen:
		return len(t.Kids) > 0 && s.have(t.Kids[:1], bit) && s.allEffects(t.Kids[1:])
	}
	return false
}

// have says whether there are as many terms as widths, each of its width.
func (s *scope) have(terms []api.Term, widths ...int) bool {
	if len(terms) != len(widths) {
		return false
	}
	for n, w := range widths {
		if s.width(terms[n]) != w {
			return false
		}
	}
	return true
}
