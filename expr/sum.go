package expr

import (
	"maps"
	"slices"
	"strings"

	"dovetail/api"
)

// sum is symbols, each with how often it counts (never 0), and a number. No two sums have one map.
type sum struct {
	times map[string]int
	off   int
}

// number gives the sum of a number alone.
func number(n int) sum { return sum{off: n} }

// symbol gives the sum of a symbol alone.
func symbol(sym string) sum { return sum{times: map[string]int{sym: 1}} }

// sumOf gives a normal sum that is handed in, to be reckoned with.
func sumOf(a api.Lin) sum {
	s := number(a.Off)
	for i, sym := range a.Syms {
		s.count(sym, a.Times[i])
	}
	return s
}

// count lets a symbol count n times more.
func (s *sum) count(sym string, n int) {
	if s.times == nil {
		s.times = map[string]int{}
	}
	s.times[sym] += n
	if s.times[sym] == 0 {
		delete(s.times, sym)
	}
}

// add adds another sum.
func (s *sum) add(other sum) {
	for sym, n := range other.times {
		s.count(sym, n)
	}
	s.off += other.off
}

// by gives the product with a number.
func (s sum) by(n int) sum {
	product := number(s.off * n)
	for sym, t := range s.times {
		product.count(sym, t*n)
	}
	return product
}

// hasSymbols says whether a symbol counts.
func (s sum) hasSymbols() bool { return len(s.times) > 0 }

// tooMany says whether more symbols count than a normal sum has.
func (s sum) tooMany() bool { return len(s.times) > api.MaxSyms }

// lin gives the sum as it is handed out.
func (s sum) lin() api.Lin {
	a := api.Lin{Off: s.off}
	for _, sym := range slices.Sorted(maps.Keys(s.times)) {
		a.Syms = append(a.Syms, strings.Clone(sym))
		a.Times = append(a.Times, s.times[sym])
	}
	return a
}

// isNormal says whether a sum's symbols are names, rising, each counting, and not too many.
func isNormal(a api.Lin) bool {
	if len(a.Syms) > api.MaxSyms || len(a.Times) != len(a.Syms) {
		return false
	}
	for i, sym := range a.Syms {
		if !isName(sym) || a.Times[i] == 0 || i > 0 && a.Syms[i-1] >= sym {
			return false
		}
	}
	return true
}
