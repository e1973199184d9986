package isadl_test

import (
	"math"
	"reflect"
	"regexp"
	"slices"
	"strconv"
	"strings"
	"testing"

	"dovetail/api"
	"dovetail/isadl"
	"dovetail/sexp"
)

// A slower reading, which tells the place and the number of an error alone: it goes along patterns, which are trees themselves.
//
// In a pattern NAME stands for any word, N for a number from 0 on, I for any, T for a text; +kind:most for a new name, =kind for one that is given; room:kind:most asks for room alone; [ .. ] may be left out, if the first part isn't there; / .. / is one of some words; *most what comes as often as it is there (most 0: without a bound); the other words in capitals are as in the chapter, and the rest stand for themselves.

const itemPatterns = `
(isa NAME / word bytes /)
(file FILENAME +file:8 N N [ zero N ])
(alias +alias:256 =file N)
(flag +flag:16)
(class +class:64 CLASS)
(form +form:512 T (*0 (+arg:6 =class)) (*64 PIECE) (*64 EFFECT))
(macro room:macro:32 T RELORNONE (*8 T))
(rel +rel:128 N REL)
(use room:use:128 NAME =class =rel [ end ])
(relax room:relax:16 =rel =form =rel)
(num +num:64 I)
(reg +reg:64 =file N)`

const classPatterns = `
(reg =file N [ plus N ] [ except *8 I ])
(uns N [ shift N ] [ except *8 I ])
(sgn N [ shift N ] [ except *8 I ])
(pc N [ shift N ] [ except *8 I ])
(nx N [ shift N ] [ except *8 I ])`

const relPatterns = `
(none)
(data N CALC *0 CHECK)
(insn =class CALC *0 CHECK)
(pair =class =class CALC *0 CHECK)`

const termPatterns = `
(c N I) (not TERM) (neg TERM) (imm =arg N) (flag =flag) (ld N TERM) (if TERM TERM TERM) (sx N TERM) (zx N TERM) (ex N N TERM)
(add TERM TERM) (sub TERM TERM) (mul TERM TERM) (and TERM TERM) (or TERM TERM) (xor TERM TERM) (shl TERM TERM) (shr TERM TERM) (sar TERM TERM)
(divu TERM TERM) (remu TERM TERM) (divs TERM TERM) (rems TERM TERM) (eq TERM TERM) (ltu TERM TERM) (lts TERM TERM) (cat TERM TERM)`

const effectPatterns = `
(set TARGET TERM) (st N TERM TERM) (jump TERM) (trap N) (sys) (when TERM *0 EFFECT)`

const calcPatterns = `(add CALC CALC) (sub CALC CALC) (page CALC)`

const checkPatterns = `(signed N) (unsigned N) (either N) (align N) (round N) (slice N N)`

// slow is the state of the slower reading: the names of each kind, and how many there are of kinds without names.
type slow struct {
	names map[string][]string
	told  []string
}

// patterns are the lists of a text of patterns, by their first word.
func patterns(text string) map[string][]api.Tree {
	l, _, e := sexp.Parse(text)
	if e != api.OK {
		panic("patterns that are none")
	}
	out := map[string][]api.Tree{}
	for _, t := range l {
		out[t.Kids[0].Word] = t.Kids[1:]
	}
	return out
}

var (
	itemsOf   = patterns(itemPatterns)
	classesOf = patterns(classPatterns)
	relsOf    = patterns(relPatterns)
	termsOf   = patterns(termPatterns)
	effectsOf = patterns(effectPatterns)
	calcsOf   = patterns(calcPatterns)
	checksOf  = patterns(checkPatterns)
	bitsOf    = regexp.MustCompile(`^\[(?:[0-9]|[1-9][0-9])(?::(?:[0-9]|[1-9][0-9]))?\]$`)
)

// read answers as Parse does, but for the description.
func read(text string) (int, api.Errno) {
	l, at, e := sexp.Parse(text)
	if e != api.OK {
		return at, e
	}
	if len(l) == 0 {
		return 0, api.ErrIsa
	}
	s := slow{names: map[string][]string{}}
	for n, t := range l {
		if e := s.item(t, n); e != api.OK {
			return n, e
		}
	}
	return 0, api.OK
}

func (s *slow) item(t api.Tree, n int) api.Errno {
	if t.Kind != api.TreeList || len(t.Kids) == 0 || t.Kids[0].Kind != api.TreeWord || (t.Kids[0].Word == "isa") != (n == 0) {
		return api.ErrIsa
	}
	pattern, ok := itemsOf[t.Kids[0].Word]
	if !ok {
		return api.ErrIsa
	}
	s.names["arg"], s.told = nil, nil
	return s.all(pattern, t.Kids[1:])
}

// all goes along a pattern over all of a list.
func (s *slow) all(pattern, l []api.Tree) api.Errno {
	left, e := s.along(pattern, l)
	if e == api.OK && len(left) > 0 {
		return api.ErrIsa
	}
	return e
}

// along goes along a pattern, and answers what it leaves of a list.
func (s *slow) along(pattern, l []api.Tree) ([]api.Tree, api.Errno) {
	for len(pattern) > 0 {
		p := pattern[0]
		pattern = pattern[1:]
		var e api.Errno
		switch {
		case p.Word == "[":
			n := slices.IndexFunc(pattern, func(t api.Tree) bool { return t.Word == "]" })
			if len(l) > 0 && l[0].Kind == api.TreeWord && l[0].Word == pattern[0].Word {
				l, e = s.along(pattern[:n], l)
			}
			pattern = pattern[n+1:]
		case p.Word == "/":
			n := slices.IndexFunc(pattern, func(t api.Tree) bool { return t.Word == "/" })
			if len(l) == 0 || l[0].Kind != api.TreeWord || !slices.ContainsFunc(pattern[:n], func(t api.Tree) bool { return t.Word == l[0].Word }) {
				return nil, api.ErrIsa
			}
			l, pattern = l[1:], pattern[n+1:]
		case strings.HasPrefix(p.Word, "*"):
			most, _ := strconv.Atoi(p.Word[1:])
			for n := 1; len(l) > 0; n++ {
				if l, e = s.one(pattern[0], l); e != api.OK {
					return nil, e
				}
				if most > 0 && n > most {
					return nil, api.ErrIsaMany
				}
			}
			pattern = pattern[1:]
		default:
			l, e = s.one(p, l)
		}
		if e != api.OK {
			return nil, e
		}
	}
	return l, api.OK
}

// one goes over a part that isn't one of those that take several.
func (s *slow) one(p api.Tree, l []api.Tree) ([]api.Tree, api.Errno) {
	kind, rest, _ := strings.Cut(p.Word, ":")
	most, _ := strconv.Atoi(rest[strings.Index(rest, ":")+1:])
	if kind == "room" {
		kind, _, _ = strings.Cut(rest, ":")
		s.names[kind] = append(s.names[kind], "")
		return l, many43(len(s.names[kind]) > most)
	}
	if kind == "FILENAME" {
		if len(l) > 0 && l[0].Kind == api.TreeWord && (termsOf[l[0].Word] != nil || effectsOf[l[0].Word] != nil || l[0].Word == "sys" || l[0].Word == "imm") {
			return nil, api.ErrIsaName
		}
		return l, api.OK
	}
	if kind == "CLASS" || kind == "REL" {
		table := classesOf
		if kind == "REL" {
			table = relsOf
		}
		if len(l) == 0 || l[0].Kind != api.TreeWord || table[l[0].Word] == nil && l[0].Word != "none" || kind == "CLASS" && l[0].Word == "none" {
			return nil, api.ErrIsa
		}
		return s.along(table[l[0].Word], l[1:])
	}
	if len(l) == 0 {
		return nil, api.ErrIsa
	}
	return l[1:], s.part(p, kind, most, l[0])
}

func many43(many bool) api.Errno {
	if many {
		return api.ErrIsaMany
	}
	return api.OK
}

func is(ok bool) api.Errno {
	if ok {
		return api.OK
	}
	return api.ErrIsa
}

// part holds a tree against a part of a pattern.
func (s *slow) part(p api.Tree, kind string, most int, t api.Tree) api.Errno {
	isWord, isNum, isList := t.Kind == api.TreeWord, t.Kind == api.TreeNum, t.Kind == api.TreeList
	switch {
	case p.Kind == api.TreeList:
		if !isList {
			return api.ErrIsa
		}
		return s.all(p.Kids, t.Kids)
	case kind == "NAME":
		return is(isWord)
	case kind == "N":
		return is(isNum && t.Num >= 0)
	case kind == "I":
		return is(isNum)
	case kind == "T":
		return is(t.Kind == api.TreeText)
	case kind[0] == '+':
		if !isWord {
			return api.ErrIsa
		}
		if slices.Contains(s.names[kind[1:]], t.Word) {
			return api.ErrIsaName
		}
		s.names[kind[1:]] = append(s.names[kind[1:]], t.Word)
		return many43(len(s.names[kind[1:]]) > most)
	case kind[0] == '=':
		return s.given(kind[1:], t)
	case kind == "RELORNONE":
		if isWord && t.Word == "none" {
			return api.OK
		}
		return s.given("rel", t)
	case kind == "PIECE":
		return s.piece(t)
	case kind == "TERM":
		if isWord {
			return is(t.Word == "pc" || t.Word == "next")
		}
		if n, e := headed(t, termsOf, s); n {
			return e
		}
		if isList && len(t.Kids) > 0 && effectsOf[t.Kids[0].Word] != nil {
			return api.ErrIsa
		}
		return s.register(t)
	case kind == "TARGET":
		if n, e := headed(t, map[string][]api.Tree{"flag": termsOf["flag"]}, s); n {
			return e
		}
		return s.register(t)
	case kind == "EFFECT":
		if isList && len(t.Kids) > 0 && t.Kids[0].Kind == api.TreeWord && t.Kids[0].Word == "sys" {
			return is(len(t.Kids) == 1)
		}
		_, e := headed(t, effectsOf, s)
		return e
	case kind == "CALC":
		if isNum || isWord {
			return is(isNum || len(t.Word) == 1 && strings.Contains("SAPGTH", t.Word))
		}
		_, e := headed(t, calcsOf, s)
		return e
	case kind == "CHECK":
		n, e := headed(t, checksOf, s)
		if n && e == api.OK {
			sort := strings.NewReplacer("unsigned", "sign", "signed", "sign", "either", "sign").Replace(t.Kids[0].Word)
			e = is(!slices.Contains(s.told, sort))
			s.told = append(s.told, sort)
		}
		return e
	}
	return is(isWord && t.Word == p.Word)
}

func (s *slow) given(kind string, t api.Tree) api.Errno {
	if t.Kind != api.TreeWord {
		return api.ErrIsa
	}
	if !slices.Contains(s.names[kind], t.Word) {
		return api.ErrIsaName
	}
	return api.OK
}

// headed holds a list against the pattern that its first word has in a table, and says whether there is one.
func headed(t api.Tree, table map[string][]api.Tree, s *slow) (bool, api.Errno) {
	if t.Kind != api.TreeList || len(t.Kids) == 0 || t.Kids[0].Kind != api.TreeWord || table[t.Kids[0].Word] == nil {
		return false, api.ErrIsa
	}
	return true, s.all(table[t.Kids[0].Word], t.Kids[1:])
}

// register holds a list against a file and a register of it.
func (s *slow) register(t api.Tree) api.Errno {
	if t.Kind != api.TreeList || len(t.Kids) == 0 {
		return api.ErrIsa
	}
	if e := s.given("file", t.Kids[0]); e != api.OK {
		return e
	}
	if len(t.Kids) == 1 {
		return api.ErrIsa
	}
	e := is(t.Kids[1].Num >= 0)
	if t.Kids[1].Kind != api.TreeNum {
		e = s.given("arg", t.Kids[1])
	}
	if e == api.OK {
		e = is(len(t.Kids) == 2)
	}
	return e
}

func (s *slow) piece(t api.Tree) api.Errno {
	if t.Kind != api.TreeWord {
		return api.ErrIsa
	}
	w := t.Word
	if w[0] == '.' {
		return is(len(w) > 1 && strings.Count(w, "0")+strings.Count(w, "1")+strings.Count(w, "x") == len(w)-1)
	}
	n := strings.Index(w+"[", "[")
	if !slices.Contains(s.names["arg"], w[:n]) {
		return api.ErrIsaName
	}
	return is(n == len(w) || bitsOf.MatchString(w[n:]))
}

// whole is a description in which all shapes are.
const whole = start + `
(alias zero x 0) (alias fp x 8)
(class b pc 12 shift 1) (class s nx 8 except -128 127) (class rc reg x 3 plus 8 except 9)
(form add "add d, a, i" ((d r) (a r) (i i)) (.0x1 i[11:5] a d i[4] i[3:0])
 ((set (x d) (add (x a) (imm i 64))) (set (flag z) (eq (x 0) (c 64 -1))) (when (not (flag n)) (st 8 pc (ex 7 0 (x a))) (when (ltu next pc) (trap 1)) (jump (if (flag z) (ld 64 pc) (sx 64 (zx 32 (neg (f 7)))))))
  (sys)))
(form p "" () () ())
(rel c 18 pair b i (sub (add S A) P) (signed 32) (round 2048))
(rel b 2 insn b (sub (page (add G -7)) (page T)) (either 13) (align 1) (slice 12 1))
(rel d 3 data 4 H (unsigned 32))
(macro "li $d, $i" none ("add $d, x0, $i" "add $d, x1, $i")) (macro "call $s" c ("p"))
(use none b b end) (use lo i c)
(relax c add b)
(num machine 243) (num less -1)
(reg sp x 2)
`

// heldAgainst holds Parse of a text against the slower reading, and Print against Parse; it says whether there was an error.
func heldAgainst(t *testing.T, text string) api.Errno {
	t.Helper()
	want, wanted := read(text)
	d, n, e := isadl.Parse(text)
	if n != want || e != wanted || e != api.OK && !reflect.DeepEqual(d, api.Desc{}) {
		t.Fatalf("%s: %d %d, not %d %d, %+v", text, n, e, want, wanted, d)
	}
	if e == api.OK {
		comesBack(t, d)
	}
	return e
}

// lists are all lists within trees, and the trees.
func lists(l *[]api.Tree) []*[]api.Tree {
	out := []*[]api.Tree{l}
	for n := range *l {
		if (*l)[n].Kind == api.TreeList {
			out = append(out, lists(&(*l)[n].Kids)...)
		}
	}
	return out
}

// clone is a tree that shares nothing with another, so that it may be put into what it was taken from.
func clone(t api.Tree) api.Tree {
	t.Kids = slices.Clone(t.Kids)
	for n := range t.Kids {
		t.Kids[n] = clone(t.Kids[n])
	}
	return t
}

func treesOf(t *testing.T, text string) []api.Tree {
	l, _, e := sexp.Parse(text)
	if e != api.OK {
		t.Fatal(e)
	}
	return l
}

// TestOneFault: whole, in which each part is left out, told twice, or put in place of by others.
func TestOneFault(t *testing.T) {
	if e := heldAgainst(t, whole); e != api.OK {
		t.Fatal(e)
	}
	others := treesOf(t, `7 -1 "t" () zz x z r o q d none pc .01 d[3] (zz) (x 1) (sys) (flag z) (S) end isa`)
	seen := map[api.Errno]int{}
	try := func(l []api.Tree) {
		s, e := sexp.Print(l)
		if e != api.OK {
			t.Fatal(e)
		}
		seen[heldAgainst(t, s)]++
	}
	l := treesOf(t, whole)
	for _, at := range lists(&l) {
		old := *at
		for n := range len(old) + 1 {
			if n < len(old) {
				*at = slices.Concat(old[:n], old[n+1:])
				try(l)
				*at = slices.Concat(old[:n+1], old[n:])
				try(l)
			}
			for _, other := range others {
				*at = slices.Insert(slices.Clone(old), n, other)
				try(l)
				if n < len(old) {
					*at = slices.Concat(old[:n], []api.Tree{other}, old[n+1:])
					try(l)
				}
			}
		}
		*at = old
	}
	if seen[api.OK] < 500 || seen[api.ErrIsa] < 5000 || seen[api.ErrIsaName] < 1000 {
		t.Error(seen)
	}
}

// TestMixedFaults: descriptions of which some parts are exchanged, put twice and cut, in no order.
func TestMixedFaults(t *testing.T) {
	some := uint32(1)
	next := func(n int) int {
		some = some*1664525 + 1013904223
		return int(some>>8) % n
	}
	seen := map[api.Errno]int{}
	for range 6000 {
		l := treesOf(t, whole)
		// Fewer items, and these in another order, leave names that are given behind.
		for range next(3) {
			n := 1 + next(len(l)-1)
			l = slices.Delete(l, n, n+1)
		}
		for range next(3) {
			a, b := 1+next(len(l)-1), 1+next(len(l)-1)
			l[a], l[b] = l[b], l[a]
		}
		all := lists(&l)
		for range next(4) {
			from, to := *all[next(len(all))], all[next(len(all))]
			if len(from) == 0 {
				continue
			}
			part, n := clone(from[next(len(from))]), next(len(*to)+1)
			if n < len(*to) && next(2) == 0 {
				*to = slices.Concat((*to)[:n], []api.Tree{part}, (*to)[n+1:])
			} else {
				*to = slices.Insert(slices.Clone(*to), n, part)
			}
		}
		s, e := sexp.Print(l)
		if e != api.OK {
			continue
		}
		seen[heldAgainst(t, s)]++
	}
	if seen[api.OK] < 300 || seen[api.ErrIsa] < 1000 || seen[api.ErrIsaName] < 1000 {
		t.Error(seen)
	}
}

// TestMixedCounts: more of some items than may be, in no order.
func TestMixedCounts(t *testing.T) {
	some := uint32(3)
	next := func(n int) int {
		some = some*1664525 + 1013904223
		return int(some>>8) % n
	}
	items := []string{"(file k# 1 1)", "(flag k#)", "(class k# uns 1)", "(macro \"\" none ())", "(relax q o q)", "(num k# 1)", "(reg k# x 1)", "(form k# \"\" ((a r) (b r) (c r) (e r) (g r)) (a a) ((sys)))", "(alias k# x 1)", "(use none r q)"}
	seen := map[api.Errno]int{}
	for range 300 {
		var b strings.Builder
		b.WriteString(start)
		for n := range 60 + next(700) {
			item := strings.ReplaceAll(items[2+next(len(items)-2)], "#", strconv.Itoa(n))
			if next(400) == 0 {
				item = strings.ReplaceAll(items[next(2)], "#", strconv.Itoa(next(40)))
			}
			b.WriteString(item + "\n")
		}
		seen[heldAgainst(t, b.String())]++
	}
	if seen[api.OK] == 0 || seen[api.ErrIsaMany] < 50 {
		t.Error(seen)
	}
}

// P4.2

// TestPrintOfWhole: the text itself, since other programs may be shown it.
func TestPrintOfWhole(t *testing.T) {
	d, _, _ := isadl.Parse("(isa t bytes)(file x 2 8 zero 0)(file y 2 8)(flag z)(alias a y 1)(class r reg y 1 plus 0 except)(class s reg x 1 plus 1 except 0 -1)(class i uns 4 shift 2)(form f \"f d\" ((d r)(i i)) (.01 i[3:0] i[2:2] d[0] i[1:0]) ((set (flag z) (flag z)) (set (x 1) (x d))))(rel n 0 none)(rel q 1 insn i (add S 7) (align 0) (round 0) (signed 0) (slice 0 0))(macro \"m\" none (\"f 1\"))(macro \"n\" q ())(use none i q)(use lo i q end)(relax n f q)(num k -7)(reg sp x 1)")
	s, e := isadl.Print(d)
	again, _ := isadl.Print(d)
	if e != api.OK || s != again || s != strings.ReplaceAll(strings.TrimSpace(s), " )", ")")+"\n" {
		t.Error(s, e)
	}
	back, n, e := isadl.Parse(s)
	if n != 0 || e != api.OK || !same(back, d) {
		t.Error(s, back, n, e)
	}
}

// TestPrintTooLong: a text that Parse takes may be too long with Print's blanks and line feeds.
func TestPrintTooLong(t *testing.T) {
	tight := "(isa t word)(form f \"#\"()()())"
	loose := "(isa t word)\n(form f \"#\" () () ())\n"
	for _, c := range []struct {
		size int
		e    api.Errno
	}{
		{api.MaxIsaText - len(loose) + 1, api.OK},
		{api.MaxIsaText - len(loose) + 2, api.ErrSexpMany},
		{api.MaxIsaText - len(tight) + 1, api.ErrSexpMany},
	} {
		d, n, e := isadl.Parse(strings.ReplaceAll(tight, "#", strings.Repeat("a", c.size)))
		if n != 0 || e != api.OK {
			t.Fatal(n, e)
		}
		s, e := isadl.Print(d)
		if e != c.e || (e == api.OK) != (s != "") {
			t.Error(c.size, e, len(s))
		}
	}
	// As many trees as may be.
	const ahead = "(isa t word) (form f \"\" () () ((when pc "
	room := api.MaxNodes - 4 - 9 // the isa's, the form's
	d, n, e := isadl.Parse(ahead + strings.Repeat("(sys)", room/2) + ")))")
	if n != 0 || e != api.OK || len(d.Forms[0].Sem[0].Kids) != 1+room/2 {
		t.Fatal(n, e)
	}
	s, e := isadl.Print(d)
	if e != api.OK {
		t.Error(len(s), e)
	}
	if back, _, _ := isadl.Parse(s); !same(back, d) {
		t.Error("as many as may be")
	}
}

// TestPrintOfOthers: descriptions that Parse didn't give are printed, or aren't; all ends.
func TestPrintOfOthers(t *testing.T) {
	isadl.Print(api.Desc{})
	numbers := []int{0, 1, 2, 3, -1, -2, 5, 99, 1 << 40, math.MaxInt, math.MinInt, math.MinInt + 1}
	words := []string{"", "a", "none", "7", "a b", "\"", "\xff", "\n", "add"}
	some := uint32(5)
	next := func(n int) int {
		some = some*1664525 + 1013904223
		return int(some>>8) % n
	}
	var fill func(v reflect.Value, deep int)
	fill = func(v reflect.Value, deep int) {
		switch v.Kind() {
		case reflect.Struct:
			for n := range v.NumField() {
				fill(v.Field(n), deep)
			}
		case reflect.Slice:
			if deep > 0 {
				n := next(4)
				v.Set(reflect.MakeSlice(v.Type(), n, n+2))
				for i := range n {
					fill(v.Index(i), deep-1)
				}
			}
		case reflect.Int:
			if v.SetInt(int64(numbers[next(len(numbers))])); next(2) == 0 {
				v.SetInt(int64(next(46)))
			}
		case reflect.String:
			v.SetString(words[next(len(words))])
		case reflect.Bool:
			v.SetBool(next(2) == 0)
		}
	}
	for range 5000 {
		var d api.Desc
		fill(reflect.ValueOf(&d).Elem(), 5)
		before := plain(d)
		s, e := isadl.Print(d)
		again, e2 := isadl.Print(d)
		if s != again || e != e2 || e != api.OK && s != "" || !reflect.DeepEqual(before, plain(d)) {
			t.Fatal(d, s, again, e, e2)
		}
	}
}

// TestPrintOfEndlessTerms: terms that share their parts, or lie within themselves.
func TestPrintOfEndlessTerms(t *testing.T) {
	shared := []api.Term{{Op: api.OpPc}, {Op: api.OpNext}}
	for range 60 {
		shared = []api.Term{{Op: api.OpAdd, Kids: shared}, {Op: api.OpAdd, Kids: shared}}
	}
	within := []api.Term{{Op: api.OpWhen}, {Op: api.OpWhen}}
	within[0].Kids, within[1].Kids = within, within
	deep := []api.Term{{Op: api.OpPage}}
	for range 1 << 16 {
		deep = []api.Term{{Op: api.OpPage, Kids: deep}}
	}
	wide := slices.Repeat(shared, 1<<16)
	for _, l := range [][]api.Term{shared, within, deep, wide} {
		for _, d := range []api.Desc{
			{Name: "t", Order: 1, Forms: []api.Form{{Name: "f", Sem: l}}},
			{Name: "t", Order: 1, Rels: []api.Rel{{Name: "f", Kind: 2, Calc: api.Term{Op: api.OpAdd, Kids: l}}}},
		} {
			if s, e := isadl.Print(d); s != "" || e == api.OK {
				t.Error(len(s), e)
			}
		}
	}
}

// Both

// spans are the places of all lists of a value, spare room included.
func spans(v reflect.Value) [][2]uintptr {
	var out [][2]uintptr
	switch v.Kind() {
	case reflect.Struct:
		for n := range v.NumField() {
			out = append(out, spans(v.Field(n))...)
		}
	case reflect.Slice:
		if v.Cap() > 0 {
			at := v.Pointer()
			out = append(out, [2]uintptr{at, at + uintptr(v.Cap())*v.Type().Elem().Size()})
		}
		for n := range v.Len() {
			out = append(out, spans(v.Index(n))...)
		}
	}
	return out
}

// TestSharesNothing: each list of two answers has its own memory.
func TestSharesNothing(t *testing.T) {
	a, _, _ := isadl.Parse(whole)
	b, _, _ := isadl.Parse(whole)
	all := append(spans(reflect.ValueOf(a)), spans(reflect.ValueOf(b))...)
	slices.SortFunc(all, func(x, y [2]uintptr) int { return int(int64(x[0]) - int64(y[0])) })
	if len(all) < 80 {
		t.Fatal(len(all))
	}
	for n := 1; n < len(all); n++ {
		if all[n][0] < all[n-1][1] {
			t.Fatal("two lists share memory")
		}
	}
}

// TestPrintChangesNothing: of what it is handed, spare room included.
func TestPrintChangesNothing(t *testing.T) {
	d, _, _ := isadl.Parse(whole)
	spare := d
	spare.Flags = append(slices.Clone(d.Flags), "spare", "room")
	kept := slices.Clone(spare.Flags)
	spare.Flags = spare.Flags[:len(d.Flags)]
	before := plain(spare)
	if _, e := isadl.Print(spare); e != api.OK {
		t.Fatal(e)
	}
	if !reflect.DeepEqual(plain(spare), before) || !slices.Equal(spare.Flags[:len(kept)], kept) {
		t.Error(spare)
	}
}
