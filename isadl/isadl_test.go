package isadl_test

import (
	"reflect"
	"strconv"
	"strings"
	"testing"

	"dovetail/api"
	"dovetail/isadl"
	"dovetail/sexp"
)

// start has what the items of the tests name; it has startItems items.
const (
	start      = "(isa toy word) (file x 32 64 zero 0) (file f 8 128) (flag z) (flag n) (class r reg x 5) (class i sgn 12) (class w uns 1) (rel q 0 none) (rel h 1 data 8 S) (form o \"o d\" ((d r)) (d .000) ())\n"
	startItems = 11
)

// plain is a description in which no empty list is nil, so that the two are one.
func plain(d api.Desc) api.Desc {
	v := reflect.New(reflect.TypeOf(d)).Elem()
	v.Set(reflect.ValueOf(d))
	return plainValue(v).Interface().(api.Desc)
}

func plainValue(v reflect.Value) reflect.Value {
	out := reflect.New(v.Type()).Elem()
	switch v.Kind() {
	case reflect.Struct:
		for n := range v.NumField() {
			out.Field(n).Set(plainValue(v.Field(n)))
		}
	case reflect.Slice:
		out.Set(reflect.MakeSlice(v.Type(), v.Len(), v.Len()))
		for n := range v.Len() {
			out.Index(n).Set(plainValue(v.Index(n)))
		}
	default:
		out.Set(v)
	}
	return out
}

func same(a, b api.Desc) bool { return reflect.DeepEqual(plain(a), plain(b)) }

// parses holds Parse of a text against a description, and Parse of Print of that.
func parses(t *testing.T, text string, want api.Desc) {
	t.Helper()
	d, n, e := isadl.Parse(text)
	if n != 0 || e != api.OK || !same(d, want) {
		t.Errorf("%s: %+v %d %d\nnot %+v", short(text), d, n, e, want)
		return
	}
	comesBack(t, d)
}

// comesBack holds Parse of Print of a description against it.
func comesBack(t *testing.T, d api.Desc) {
	t.Helper()
	s, e := isadl.Print(d)
	back, n, e2 := isadl.Parse(s)
	if e != api.OK || n != 0 || e2 != api.OK || !same(back, d) {
		t.Errorf("%+v: %q %d: %+v %d %d", d, s, e, back, n, e2)
	}
}

// refuses holds an error's place and number; the description must be the zero one.
func refuses(t *testing.T, text string, place int, want api.Errno) {
	t.Helper()
	d, n, e := isadl.Parse(text)
	if n != place || e != want || !reflect.DeepEqual(d, api.Desc{}) {
		t.Errorf("%s: %d %d, not %d %d, %+v", short(text), n, e, place, want, d)
	}
}

// wrong holds the error of an item behind start.
func wrong(t *testing.T, item string, want api.Errno) {
	t.Helper()
	refuses(t, start+item, startItems, want)
	refuses(t, start+item+" (foo)", startItems, want)
}

// right wants an item behind start to have no error.
func right(t *testing.T, item string) api.Desc {
	t.Helper()
	d, n, e := isadl.Parse(start + item)
	if n != 0 || e != api.OK {
		t.Errorf("%s: %d %d", short(item), n, e)
		return d
	}
	comesBack(t, d)
	return d
}

func short(s string) string {
	s = strings.TrimPrefix(s, start)
	if len(s) > 200 {
		return s[:200] + ".."
	}
	return s
}

// many is items or parts one behind the other, in each of which # is its number, from 0.
func many(n int, s string) string {
	var b strings.Builder
	for i := range n {
		b.WriteString(strings.ReplaceAll(s, "#", strconv.Itoa(i)) + " ")
	}
	return b.String()
}

// begun is the description of start.
func begun() api.Desc {
	return api.Desc{
		Name: "toy", Order: 1,
		Files:   []api.File{{Name: "x", Count: 32, Width: 64, Zero: 0}, {Name: "f", Count: 8, Width: 128, Zero: -1}},
		Flags:   []string{"z", "n"},
		Classes: []api.Class{{Name: "r", Kind: 1, Bits: 5}, {Name: "i", Kind: 3, Bits: 12}, {Name: "w", Kind: 2, Bits: 1}},
		Rels:    []api.Rel{{Name: "q", Kind: 1, Hi: -1}, {Name: "h", Num: 1, Kind: 2, Bytes: 8, Calc: api.Term{Op: 38}, Hi: -1}},
		Forms:   []api.Form{{Name: "o", Syntax: "o d", Args: []api.Arg{{Name: "d"}}, Pieces: []api.Piece{{Hi: 4}, {Arg: -1, Lit: "000"}}}},
	}
}

// P4.1: what items put into the description

func TestIsa(t *testing.T) {
	parses(t, start, begun())
	parses(t, "(isa toy word)", api.Desc{Name: "toy", Order: api.OrderWord})
	parses(t, " ( isa ; x\n .7 bytes ) ", api.Desc{Name: ".7", Order: api.OrderBytes})
	parses(t, "(isa isa word)", api.Desc{Name: "isa", Order: 1})
}

// TestItems: each row of the chapter's table, with what may be left out and without.
func TestItems(t *testing.T) {
	const large = 999999999999999999
	for _, c := range []struct {
		item string
		put  func(d *api.Desc)
	}{
		{"(file y 4 8)", func(d *api.Desc) { d.Files = append(d.Files, api.File{Name: "y", Count: 4, Width: 8, Zero: -1}) }},
		{"(file pc 0 999999999999999999 zero 0)", func(d *api.Desc) { d.Files = append(d.Files, api.File{Name: "pc", Width: large}) }},
		{"(file y 1 2 zero 3)", func(d *api.Desc) { d.Files = append(d.Files, api.File{Name: "y", Count: 1, Width: 2, Zero: 3}) }},
		{"(alias a x 7)", func(d *api.Desc) { d.Aliases = []api.Alias{{Name: "a", Num: 7}} }},
		{"(alias x f 999999999999999999) (alias b x 0)", func(d *api.Desc) {
			d.Aliases = []api.Alias{{Name: "x", File: 1, Num: large}, {Name: "b"}}
		}},
		{"(flag c)", func(d *api.Desc) { d.Flags = append(d.Flags, "c") }},
		{"(class k reg f 3)", func(d *api.Desc) { d.Classes = append(d.Classes, api.Class{Name: "k", Kind: 1, File: 1, Bits: 3}) }},
		{"(class k reg f 3 plus 8)", func(d *api.Desc) {
			d.Classes = append(d.Classes, api.Class{Name: "k", Kind: 1, File: 1, Bits: 3, Plus: 8})
		}},
		{"(class k reg x 3 except 1 0)", func(d *api.Desc) {
			d.Classes = append(d.Classes, api.Class{Name: "k", Kind: 1, Bits: 3, Except: []int{1, 0}})
		}},
		{"(class k reg x 3 plus 0 except 5 -5 5)", func(d *api.Desc) {
			d.Classes = append(d.Classes, api.Class{Name: "k", Kind: 1, Bits: 3, Except: []int{5, -5, 5}})
		}},
		{"(class k reg x 3 plus 9 except)", func(d *api.Desc) {
			d.Classes = append(d.Classes, api.Class{Name: "k", Kind: 1, Bits: 3, Plus: 9})
		}},
		{"(class k uns 7)", func(d *api.Desc) { d.Classes = append(d.Classes, api.Class{Name: "k", Kind: 2, Bits: 7}) }},
		{"(class k uns 0 shift 2)", func(d *api.Desc) { d.Classes = append(d.Classes, api.Class{Name: "k", Kind: 2, Shift: 2}) }},
		{"(class k sgn 7 except -999999999999999999)", func(d *api.Desc) {
			d.Classes = append(d.Classes, api.Class{Name: "k", Kind: 3, Bits: 7, Except: []int{-large}})
		}},
		{"(class k pc 7 shift 1 except 0)", func(d *api.Desc) {
			d.Classes = append(d.Classes, api.Class{Name: "k", Kind: 4, Bits: 7, Shift: 1, Except: []int{0}})
		}},
		{"(class k nx 7 shift 0)", func(d *api.Desc) { d.Classes = append(d.Classes, api.Class{Name: "k", Kind: 5, Bits: 7}) }},
		{"(form k \"\" () () ())", func(d *api.Desc) { d.Forms = append(d.Forms, api.Form{Name: "k"}) }},
		{"(form k \"k [a], (b)\" ((a r) (b i) (z w)) (.01x b[11:3] a) ((sys) (trap 3)))", func(d *api.Desc) {
			d.Forms = append(d.Forms, api.Form{
				Name: "k", Syntax: "k [a], (b)",
				Args:   []api.Arg{{Name: "a", Class: 0}, {Name: "b", Class: 1}, {Name: "z", Class: 2}},
				Pieces: []api.Piece{{Lit: "01x", Arg: -1}, {Arg: 1, Hi: 11, Lo: 3}, {Arg: 0, Hi: 4, Lo: 0}},
				Sem:    []api.Term{{Op: 36}, {Op: 35, A: 3}},
			})
		}},
		{"(macro \"m $a\" none (\"o $a\" \"\"))", func(d *api.Desc) {
			d.Macros = []api.Macro{{Syntax: "m $a", Rel: -1, Lines: []string{"o $a", ""}}}
		}},
		{"(macro \"\" h ()) (macro \"\" q (\"o\"))", func(d *api.Desc) {
			d.Macros = []api.Macro{{Rel: 1}, {Rel: 0, Lines: []string{"o"}}}
		}},
		{"(rel k 7 none)", func(d *api.Desc) { d.Rels = append(d.Rels, api.Rel{Name: "k", Num: 7, Kind: 1, Hi: -1}) }},
		{"(rel k 7 data 4 P)", func(d *api.Desc) {
			d.Rels = append(d.Rels, api.Rel{Name: "k", Num: 7, Kind: 2, Bytes: 4, Calc: api.Term{Op: 40}, Hi: -1})
		}},
		{"(rel k 7 insn i P)", func(d *api.Desc) {
			d.Rels = append(d.Rels, api.Rel{Name: "k", Num: 7, Kind: 3, Class: 1, Calc: api.Term{Op: 40}, Hi: -1})
		}},
		{"(rel k 7 pair w i P (round 5) (slice 3 2))", func(d *api.Desc) {
			d.Rels = append(d.Rels, api.Rel{Name: "k", Num: 7, Kind: 4, Class: 2, Class2: 1, Calc: api.Term{Op: 40}, Round: 5, Hi: 3, Lo: 2})
		}},
		{"(use lo i h)", func(d *api.Desc) { d.Uses = []api.Use{{Mod: "lo", Class: 1, Rel: 1}} }},
		{"(use none w q end) (use end r h)", func(d *api.Desc) {
			d.Uses = []api.Use{{Class: 2, End: true}, {Mod: "end", Rel: 1}}
		}},
		{"(relax q o h)", func(d *api.Desc) { d.Relaxes = []api.Relaxed{{Rel: 0, Form: 0, To: 1}} }},
		{"(form p \"\" () () ()) (relax h p q) (relax h p q)", func(d *api.Desc) {
			d.Forms = append(d.Forms, api.Form{Name: "p"})
			d.Relaxes = []api.Relaxed{{Rel: 1, Form: 1, To: 0}, {Rel: 1, Form: 1, To: 0}}
		}},
		{"(num k -999999999999999999) (num none 7)", func(d *api.Desc) {
			d.Nums = []api.Named{{Name: "k", Num: -large}, {Name: "none", Num: 7}}
		}},
		{"(reg sp x 2) (reg x f 999999999999999999)", func(d *api.Desc) {
			d.Regs = []api.Alias{{Name: "sp", Num: 2}, {Name: "x", File: 1, Num: large}}
		}},
	} {
		want := begun()
		c.put(&want)
		parses(t, start+c.item, want)
	}
}

// TestWordsAsNames: the words of the shapes are no names that are kept from others, but a file's.
func TestWordsAsNames(t *testing.T) {
	for _, s := range []string{"isa", "word", "none", "zero", "plus", "except", "shift", "end", "add", "imm", "pc", "S", "signed", "a[", ".01", "$", "+"} {
		d := right(t, strings.ReplaceAll("(alias # x 0) (flag #) (class # uns 3) (form # \"\" ((# #)) () ((set (x #) (imm # 8)) (set (flag #) (flag #)))) (rel # 1 insn # A) (relax # # #) (num # 3) (reg # x 1) (use # # # end)", "#", s))
		if len(d.Flags) != 3 || d.Flags[2] != s || d.Forms[1].Args[0] != (api.Arg{Name: s, Class: 3}) || d.Relaxes[0] != (api.Relaxed{Rel: 2, Form: 1, To: 2}) {
			t.Error(s, d)
		}
		if u := d.Uses[0]; u != (api.Use{Mod: strings.ReplaceAll(s, "none", ""), Class: 3, Rel: 2, End: true}) {
			t.Error(s, u)
		}
	}
	// A macro's none is no relocation, even if there is one of that name.
	d := right(t, "(rel none 5 none) (macro \"\" none ()) (use none r none)")
	if d.Macros[0].Rel != -1 || d.Uses[0] != (api.Use{Rel: 2}) {
		t.Error(d.Macros, d.Uses)
	}
	// Words that belong to a shape's end are names and numbers where these are looked for.
	d = right(t, "(file zero 1 2 zero 0) (file plus 1 2) (class k reg zero 3) (class l reg plus 3 plus 4) (class m reg plus 3 except 4)")
	if d.Files[2] != (api.File{Name: "zero", Count: 1, Width: 2}) || d.Classes[4].Plus != 4 || d.Classes[4].File != 3 {
		t.Error(d)
	}
}

// P4.1: pieces

func TestPieces(t *testing.T) {
	const form = "(class e uns 0) (class b uns 100) (class v uns 999999999999999999) (form k \"\" ((a r) (i i) (one w) (e e) (b b) (v v) ) (#) ())"
	for _, c := range []struct {
		piece string
		want  api.Piece
	}{
		{".0", api.Piece{Arg: -1, Lit: "0"}},
		{".1", api.Piece{Arg: -1, Lit: "1"}},
		{".x", api.Piece{Arg: -1, Lit: "x"}},
		{"." + strings.Repeat("01x", 50), api.Piece{Arg: -1, Lit: strings.Repeat("01x", 50)}},
		{"a", api.Piece{Arg: 0, Hi: 4, Lo: 0}},
		{"i", api.Piece{Arg: 1, Hi: 11, Lo: 0}},
		{"one", api.Piece{Arg: 2}},
		{"e", api.Piece{Arg: 3, Hi: -1}},
		{"b", api.Piece{Arg: 4, Hi: 99}},
		{"v", api.Piece{Arg: 5, Hi: 999999999999999998}},
		{"i[11:0]", api.Piece{Arg: 1, Hi: 11, Lo: 0}},
		{"i[10:0]", api.Piece{Arg: 1, Hi: 10, Lo: 0}},
		{"i[11:1]", api.Piece{Arg: 1, Hi: 11, Lo: 1}},
		{"i[3]", api.Piece{Arg: 1, Hi: 3, Lo: 3}},
		{"i[3:3]", api.Piece{Arg: 1, Hi: 3, Lo: 3}},
		{"i[0]", api.Piece{Arg: 1}},
		{"one[0]", api.Piece{Arg: 2}},
		{"one[0:0]", api.Piece{Arg: 2}},
		{"e[0]", api.Piece{Arg: 3}},
		{"a[99:98]", api.Piece{Arg: 0, Hi: 99, Lo: 98}},
		{"a[1:20]", api.Piece{Arg: 0, Hi: 1, Lo: 20}},
		{"b[99:0]", api.Piece{Arg: 4, Hi: 99}},
		{"b[99]", api.Piece{Arg: 4, Hi: 99, Lo: 99}},
	} {
		d := right(t, strings.ReplaceAll(form, "#", c.piece))
		if len(d.Forms) != 2 || len(d.Forms[1].Pieces) != 1 || d.Forms[1].Pieces[0] != c.want {
			t.Error(c.piece, d.Forms)
		}
	}
	for e, pieces := range map[api.Errno][]string{
		api.ErrIsa: {
			".", ".2", ".01a", ".0.1", ".0[1]", ".X", ".a", ".-", "7", "\"a\"", "\".01\"", "()", "(a)", "a (a)",
			"a[", "a[]", "a[:]", "a[1", "a[1:", "a[1:]", "a[:1]", "a[1:2", "a[1:2:3]", "a[1]x", "a[1]]", "a[1][2]", "a[[1]", "a[a]", "a[1:a]",
			"a[00]", "a[01]", "a[1:01]", "a[01:1]", "a[100]", "a[100:1]", "a[1:100]", "a[-1]", "a[+1]", "a[1:-1]", "a[1x]", "a[1/]", "a[/]", "a[1,2]",
		},
		api.ErrIsaName: {"zz", "A", "x", "r", "a.", "a:", "aa", "a]", "[", "[1]", "[]", "zz[", "zz[1]", "zz[a]", "ab[1]", "zz 7", "zz .2"},
	} {
		for _, s := range pieces {
			wrong(t, "(form k \"\" ((a r) (i i)) ("+s+") ())", e)
			wrong(t, "(form k \"\" ((a r) (i i)) (.0 a "+s+" .1) ((zz)))", e)
		}
	}
	// Operands that can't be named.
	wrong(t, "(form k \"\" ((.01 r)) (.01[1]) ())", api.ErrIsa)
	wrong(t, "(form k \"\" ((a[1] r)) (a[1]) ())", api.ErrIsaName)
	d := right(t, "(form k \"\" ((.01 r) (a[1] r) (a r)) (.01 a[1]) ())")
	if p := d.Forms[1].Pieces; p[0].Arg != -1 || p[1] != (api.Piece{Arg: 2, Hi: 1, Lo: 1}) {
		t.Error(p)
	}
}

// P4.1: terms, effects

// inForm is the effects of a form with two operands.
const inForm = "(form k \"\" ((d r) (m i)) () (#))"

func leaf(op int) api.Term { return api.Term{Op: op} }

func TestTerms(t *testing.T) {
	pc, next := leaf(api.OpPc), leaf(api.OpNext)
	kids := func(op int, kids ...api.Term) api.Term { return api.Term{Op: op, Kids: kids} }
	type row struct {
		term string
		want api.Term
	}
	rows := []row{
		{"pc", api.Term{Op: 23}},
		{"next", api.Term{Op: 24}},
		{"(c 8 -3)", api.Term{Op: 20, W: 8, A: -3}},
		{"(c 0 999999999999999999)", api.Term{Op: 20, A: 999999999999999999}},
		{"(c 999999999999999999 -999999999999999999)", api.Term{Op: 20, W: 999999999999999999, A: -999999999999999999}},
		{"(not pc)", kids(18, pc)},
		{"(neg next)", kids(19, next)},
		{"(imm m 64)", api.Term{Op: 22, A: 1, W: 64}},
		{"(imm d 0)", api.Term{Op: 22}},
		{"(flag n)", api.Term{Op: 25, A: 1}},
		{"(flag z)", api.Term{Op: 25}},
		{"(ld 16 pc)", api.Term{Op: 26, W: 16, Kids: []api.Term{pc}}},
		{"(if pc next (c 1 1))", kids(27, pc, next, api.Term{Op: 20, W: 1, A: 1})},
		{"(sx 64 pc)", api.Term{Op: 28, W: 64, Kids: []api.Term{pc}}},
		{"(zx 0 pc)", api.Term{Op: 29, Kids: []api.Term{pc}}},
		{"(zx 16 next)", api.Term{Op: 29, W: 16, Kids: []api.Term{next}}},
		{"(sx 0 next)", api.Term{Op: 28, Kids: []api.Term{next}}},
		{"(ex 7 2 pc)", api.Term{Op: 30, A: 7, B: 2, Kids: []api.Term{pc}}},
		{"(ex 0 70 next)", api.Term{Op: 30, A: 0, B: 70, Kids: []api.Term{next}}},
		{"(x d)", api.Term{Op: 21}},
		{"(f m)", api.Term{Op: 21, A: 1, B: 1}},
		{"(x 0)", api.Term{Op: 21, B: -1}},
		{"(f 7)", api.Term{Op: 21, A: 1, B: -8}},
		{"(x 999999999999999999)", api.Term{Op: 21, B: -1000000000000000000}},
	}
	for n, word := range strings.Fields("add sub mul and or xor shl shr sar divu remu divs rems eq ltu lts cat") {
		rows = append(rows, row{"(" + word + " pc next)", kids(n+1, pc, next)})
		rows = append(rows, row{"(" + word + " (" + word + " (x d) pc) (c 3 4))", kids(n+1, kids(n+1, leaf(api.OpReg), pc), api.Term{Op: 20, W: 3, A: 4})})
	}
	for _, c := range rows {
		d := right(t, strings.ReplaceAll(inForm, "#", "(jump "+c.term+") (when "+c.term+")"))
		f := d.Forms[len(d.Forms)-1]
		want := []api.Term{kids(34, c.want), kids(37, c.want)}
		if !same(api.Desc{Forms: []api.Form{{Sem: f.Sem}}}, api.Desc{Forms: []api.Form{{Sem: want}}}) {
			t.Errorf("%s: %+v", c.term, f.Sem)
		}
	}
}

func TestWrongTerms(t *testing.T) {
	for e, terms := range map[api.Errno][]string{
		api.ErrIsa: {
			"7", "\"pc\"", "foo", "x", "d", "sys", "()", "(7)", "(\"x\" d)", "((x) d)", "(() pc)",
			"(c)", "(c 8)", "(c 8 1 1)", "(c -1 1)", "(c 8 pc)", "(c 8 (c 8 1))", "(c x 1)", "(c \"8\" 1)",
			"(add)", "(add pc)", "(add pc pc pc)", "(add 1 2)", "(cat pc)", "(lts pc pc next)", "(not)", "(not pc pc)", "(neg pc pc)", "(neg 1)",
			"(imm)", "(imm m)", "(imm m 8 8)", "(imm m -1)", "(imm m m)", "(imm 1 8)", "(imm \"m\" 8)", "(imm (m) 8)",
			"(flag)", "(flag z z)", "(flag 0)", "(flag \"z\")", "(flag (z))",
			"(ld 8)", "(ld pc)", "(ld -8 pc)", "(ld 8 pc pc)", "(ld 8 7)", "(if pc pc)", "(if pc pc pc pc)", "(if)",
			"(sx pc)", "(sx 8)", "(sx -8 pc)", "(sx 8 pc pc)", "(zx pc)", "(zx 8 \"\")", "(zx -1 pc)",
			"(ex 1 pc)", "(ex 1 1)", "(ex -1 0 pc)", "(ex 1 -1 pc)", "(ex 1 0 pc pc)",
			"(x)", "(x d d)", "(x 1 1)", "(x 1 d)", "(x -1)", "(x \"d\")", "(x (d))", "(x ())",
			"(set (x d) pc)", "(st)", "(st 8 pc pc)", "(jump pc)", "(trap)", "(trap 1)", "(sys)", "(when pc)", "(st zz)", "(not (sys))",
		},
		api.ErrIsaName: {
			"(zz)", "(zz d)", "(zz 1)", "(zz \"\")", "(S 1)", "(pc)", "(next 1)", "(page pc)", "(x zz)", "(x x)", "(x zz zz)", "(f z)", "(imm zz 8)", "(imm zz)", "(imm x 8)", "(imm r 8)",
			"(flag zz)", "(flag zz z)", "(flag x)", "(flag d)", "(add (zz 1) 7)", "(ex 1 0 (zz))", "(if pc (x zz) 1)", "(x pc)",
		},
	} {
		for _, s := range terms {
			wrong(t, strings.ReplaceAll(inForm, "#", "(jump "+s+")"), e)
			wrong(t, strings.ReplaceAll(inForm, "#", "(when (eq "+s+" (zz)) (foo))"), e)
			wrong(t, strings.ReplaceAll(inForm, "#", "(sys) (st 8 pc "+s+") (foo)"), e)
		}
	}
	wrong(t, strings.ReplaceAll(inForm, "#", "(jump)"), api.ErrIsa)
	// The operands are those of the form itself, not of one ahead of it.
	wrong(t, "(form l \"\" () () ((jump (x d))))", api.ErrIsaName)
	wrong(t, "(form l \"\" () () ((jump (imm d 8))))", api.ErrIsaName)
}

func TestEffects(t *testing.T) {
	pc, next := leaf(api.OpPc), leaf(api.OpNext)
	for _, c := range []struct {
		effect string
		want   api.Term
	}{
		{"(set (x d) pc)", api.Term{Op: 31, Kids: []api.Term{pc}}},
		{"(set (f m) next)", api.Term{Op: 31, A: 1, B: 1, Kids: []api.Term{next}}},
		{"(set (x 0) pc)", api.Term{Op: 31, B: -1, Kids: []api.Term{pc}}},
		{"(set (f 30) pc)", api.Term{Op: 31, A: 1, B: -31, Kids: []api.Term{pc}}},
		{"(set (flag n) pc)", api.Term{Op: 32, A: 1, Kids: []api.Term{pc}}},
		{"(set (flag z) (flag n))", api.Term{Op: 32, Kids: []api.Term{{Op: 25, A: 1}}}},
		{"(st 32 pc next)", api.Term{Op: 33, W: 32, Kids: []api.Term{pc, next}}},
		{"(jump next)", api.Term{Op: 34, Kids: []api.Term{next}}},
		{"(trap 0)", api.Term{Op: 35}},
		{"(trap 999999999999999999)", api.Term{Op: 35, A: 999999999999999999}},
		{"(sys)", api.Term{Op: 36}},
		{"(when pc)", api.Term{Op: 37, Kids: []api.Term{pc}}},
		{"(when pc (sys) (when next (trap 1) (trap 2)) (jump pc))", api.Term{Op: 37, Kids: []api.Term{
			pc, {Op: 36}, {Op: 37, Kids: []api.Term{next, {Op: 35, A: 1}, {Op: 35, A: 2}}}, {Op: 34, Kids: []api.Term{pc}},
		}}},
	} {
		d := right(t, strings.ReplaceAll(inForm, "#", c.effect))
		f := d.Forms[len(d.Forms)-1]
		if !same(api.Desc{Forms: []api.Form{{Sem: f.Sem}}}, api.Desc{Forms: []api.Form{{Sem: []api.Term{c.want}}}}) {
			t.Errorf("%s: %+v", c.effect, f.Sem)
		}
	}
	// A file may be named pc, next, or as a part of a formula; a list that begins with it is a register of it.
	d := right(t, "(file pc 1 1) (file next 1 1) (file S 1 1) (form k \"\" () () ((set (pc 2) pc) (set (next 3) (pc 2)) (jump (add next (S 9)))))")
	want := []api.Term{
		{Op: 31, A: 2, B: -3, Kids: []api.Term{pc}},
		{Op: 31, A: 3, B: -4, Kids: []api.Term{{Op: 21, A: 2, B: -3}}},
		{Op: 34, Kids: []api.Term{{Op: 1, Kids: []api.Term{next, {Op: 21, A: 4, B: -10}}}}},
	}
	if !same(api.Desc{Forms: []api.Form{{Sem: d.Forms[1].Sem}}}, api.Desc{Forms: []api.Form{{Sem: want}}}) {
		t.Errorf("%+v", d.Forms[1].Sem)
	}
}

func TestWrongEffects(t *testing.T) {
	for e, effects := range map[api.Errno][]string{
		api.ErrIsa: {
			"7", "sys", "pc", "\"sys\"", "()", "(7)", "((sys))", "(foo)", "(x d)", "(zz 1)", "(add pc pc)", "(flag z)", "(c 1 1)", "(imm m 8)", "(pc)", "(page pc)",
			"(set)", "(set (x d))", "(set (x d) pc pc)", "(set x pc)", "(set d pc)", "(set pc pc)", "(set 7 pc)", "(set \"\" pc)", "(set () pc)", "(set ((x d)) pc)",
			"(set (x) pc)", "(set (x d d) pc)", "(set (x -1) pc)", "(set (7 d) pc)", "(set (flag) pc)", "(set (flag z z) pc)", "(set (flag 1) pc)", "(set (flag z))", "(set (x 1) 1)",
			"(st)", "(st 8 pc)", "(st pc pc)", "(st -8 pc pc)", "(st 8 pc pc pc)", "(jump)", "(jump pc pc)", "(jump 7)", "(trap)", "(trap -1)", "(trap 1 1)", "(trap pc)", "(trap x)",
			"(sys 1)", "(sys pc)", "(sys (sys))", "(when)", "(when (sys))", "(when pc pc)", "(when pc (sys) 7)", "(when pc ())", "(when pc (eq pc pc))",
		},
		api.ErrIsaName: {
			"(set (zz d) pc)", "(set (zz) pc)", "(set (pc 0) pc)", "(set (x zz) pc)", "(set (x x) pc)", "(set (flag zz) pc)", "(set (flag x) 7)", "(set (zz 1) 7)", "(set (flag d) pc)", "(set (x z) pc)",
			"(set (x d) (zz 1))", "(st 8 (zz 1) 7)", "(when (zz) (foo))", "(when pc (jump (x zz)) 7)", "(set (add pc pc) pc)", "(set (imm m 8) pc)", "(set (st 8) pc)",
		},
	} {
		for _, s := range effects {
			wrong(t, strings.ReplaceAll(inForm, "#", s), e)
			wrong(t, strings.ReplaceAll(inForm, "#", "(sys) "+s+" (jump (zz))"), e)
			wrong(t, strings.ReplaceAll(inForm, "#", "(when pc (when next "+s+"))"), e)
		}
	}
}

// P4.1: formulas, checks

func TestCalcs(t *testing.T) {
	s, a := leaf(38), leaf(39)
	for _, c := range []struct {
		calc string
		want api.Term
	}{
		{"S", s},
		{"A", a},
		{"P", leaf(40)},
		{"G", leaf(41)},
		{"T", leaf(42)},
		{"H", leaf(44)},
		{"7", api.Term{Op: 20, W: 64, A: 7}},
		{"0", api.Term{Op: 20, W: 64}},
		{"-999999999999999999", api.Term{Op: 20, W: 64, A: -999999999999999999}},
		{"(add S A)", api.Term{Op: 1, Kids: []api.Term{s, a}}},
		{"(sub A S)", api.Term{Op: 2, Kids: []api.Term{a, s}}},
		{"(page S)", api.Term{Op: 43, Kids: []api.Term{s}}},
		{"(sub (page (add S 5)) (page P))", api.Term{Op: 2, Kids: []api.Term{
			{Op: 43, Kids: []api.Term{{Op: 1, Kids: []api.Term{s, {Op: 20, W: 64, A: 5}}}}}, {Op: 43, Kids: []api.Term{{Op: 40}}},
		}}},
	} {
		for _, kind := range []string{"data 4", "insn r", "pair r r"} {
			d := right(t, "(rel k 5 "+kind+" "+c.calc+" (align 2))")
			x := d.Rels[len(d.Rels)-1]
			if x.Align != 2 || x.Num != 5 || !same(api.Desc{Rels: []api.Rel{{Calc: x.Calc}}}, api.Desc{Rels: []api.Rel{{Calc: c.want}}}) {
				t.Errorf("%s: %+v", c.calc, x)
			}
		}
	}
	for _, s := range []string{
		"", "B", "s", "I", "x", "pc", "add", "page", "\"S\"", "()", "(S)", "(7)", "(A S)", "(add)", "(add S)", "(add S A P)", "(sub S)", "(sub S A A)", "(page)", "(page S S)", "(pages S)",
		"(mul S A)", "(and S A)", "(not S)", "(neg S)", "(c 64 1)", "(zz S)", "(x 1)", "(flag z)", "(add pc S)", "(add S (mul S S))", "(\"add\" S S)", "((add) S S)", "(align 2)",
	} {
		for _, kind := range []string{"data 4", "insn r", "pair r r"} {
			wrong(t, "(rel k 5 "+kind+" "+s+")", api.ErrIsa)
			wrong(t, "(rel k 5 "+kind+" (sub P "+s+") foo)", api.ErrIsa)
		}
	}
}

func TestChecks(t *testing.T) {
	none := api.Rel{Hi: -1}
	for _, c := range []struct {
		checks string
		want   api.Rel
	}{
		{"", none},
		{"(signed 13)", api.Rel{Sign: 1, Width: 13, Hi: -1}},
		{"(unsigned 13)", api.Rel{Sign: 2, Width: 13, Hi: -1}},
		{"(either 13)", api.Rel{Sign: 3, Width: 13, Hi: -1}},
		{"(signed 0)", api.Rel{Sign: 1, Hi: -1}},
		{"(align 3)", api.Rel{Align: 3, Hi: -1}},
		{"(align 0)", none},
		{"(round 2048)", api.Rel{Round: 2048, Hi: -1}},
		{"(round 0)", none},
		{"(align 1)", api.Rel{Align: 1, Hi: -1}},
		{"(round 1)", api.Rel{Round: 1, Hi: -1}},
		{"(either 1)", api.Rel{Sign: 3, Width: 1, Hi: -1}},
		{"(slice 1 0)", api.Rel{Hi: 1}},
		{"(slice 12 1)", api.Rel{Hi: 12, Lo: 1}},
		{"(slice 0 0)", api.Rel{}},
		{"(slice 1 999999999999999999)", api.Rel{Hi: 1, Lo: 999999999999999999}},
		{"(slice 31 12) (round 5) (align 2) (either 32)", api.Rel{Sign: 3, Width: 32, Align: 2, Round: 5, Hi: 31, Lo: 12}},
		{"(unsigned 1) (align 2) (round 3) (slice 4 5)", api.Rel{Sign: 2, Width: 1, Align: 2, Round: 3, Hi: 4, Lo: 5}},
	} {
		for _, kind := range []string{"data 4", "insn r", "pair r r"} {
			x := right(t, "(rel k 5 "+kind+" S "+c.checks+")").Rels[2]
			got := api.Rel{Sign: x.Sign, Width: x.Width, Align: x.Align, Round: x.Round, Hi: x.Hi, Lo: x.Lo}
			if !reflect.DeepEqual(got, c.want) {
				t.Errorf("%s: %+v", c.checks, x)
			}
		}
	}
	for _, s := range []string{
		"7", "signed", "signed 5", "\"signed\"", "()", "(7)", "(foo)", "(sign 5)", "((signed 5))", "(none)", "S",
		"(signed)", "(signed x)", "(signed -1)", "(signed 5 5)", "(unsigned)", "(unsigned -1)", "(either)", "(either -1)", "(either 1 1)", "(align)", "(align -1)", "(align 1 1)", "(align \"1\")",
		"(round)", "(round -1)", "(round 1 1)", "(round (c 1 1))", "(slice)", "(slice 1)", "(slice 1 2 3)", "(slice -1 0)", "(slice 1 -1)", "(slice x 0)",
		"(signed 5) (signed 5)", "(signed 0) (signed 0)", "(signed 5) (unsigned 5)", "(unsigned 5) (either 5)", "(either 5) (align 1) (signed 5)",
		"(align 1) (align 1)", "(align 0) (align 0)", "(align 0) (round 0) (align 1)", "(round 1) (round 1)", "(round 0) (round 0)", "(slice 1 0) (slice 1 0)", "(slice 0 0) (align 0) (slice 0 0)",
	} {
		for _, kind := range []string{"data 4", "insn r", "pair r r"} {
			wrong(t, "(rel k 5 "+kind+" S "+s+")", api.ErrIsa)
		}
	}
	wrong(t, "(rel k 5 none (align 1))", api.ErrIsa)
	wrong(t, "(rel k 5 none S)", api.ErrIsa)
}

// P4.1: names

// TestNamesGivenTwice: each kind's for themselves.
func TestNamesGivenTwice(t *testing.T) {
	for _, item := range []string{
		"(file # 1 1)", "(alias # x 1)", "(flag #)", "(class # uns 1)", "(form # \"\" () () ())", "(rel # 1 none)", "(num # 1)", "(reg # x 1)",
	} {
		k, l := strings.ReplaceAll(item, "#", "k"), strings.ReplaceAll(item, "#", "l")
		right(t, k+l)
		refuses(t, start+k+k, startItems+1, api.ErrIsaName)
		refuses(t, start+k+l+k, startItems+2, api.ErrIsaName)
		refuses(t, start+k+l+l, startItems+2, api.ErrIsaName)
		// The name's being new is looked at as soon as it is read.
		head := item[:strings.Index(item, "#")]
		refuses(t, start+k+head+"k)", startItems+1, api.ErrIsaName)
		refuses(t, start+k+head+"k () () () () ())", startItems+1, api.ErrIsaName)
		refuses(t, start+k+head+"l () () () () ())", startItems+1, api.ErrIsa)
	}
	right(t, strings.ReplaceAll("(file # 1 1) (alias # x 1) (flag #) (class # uns 1) (form # \"\" ((# r)) () ()) (rel # 1 none) (num # 1) (reg # x 1)", "#", "k"))
	wrong(t, "(form k \"\" ((a r) (a r)) () ())", api.ErrIsaName)
	wrong(t, "(form k \"\" ((a r) (b r) (b zz)) () ())", api.ErrIsaName)
	wrong(t, "(form k \"\" ((a r) (a)) () ())", api.ErrIsaName)
	right(t, "(form k \"\" ((a r) (A r)) () ()) (form l \"\" ((a r)) () ())")
	right(t, "(num k 1) (macro \"\" none ()) (macro \"\" none ()) (use none r q) (use none r q) (relax q o q) (relax q o q)")
}

// TestNamesNotKnown: not at all, or only behind the item, or as another kind's.
func TestNamesNotKnown(t *testing.T) {
	for _, c := range []struct{ item, ahead string }{
		{"(alias a y 1)", "(file y 1 1)"},
		{"(reg a y 1)", "(file y 1 1)"},
		{"(class a reg y 1)", "(file y 1 1)"},
		{"(form a \"\" ((a y)) () ())", "(class y uns 1)"},
		{"(form a \"\" () () ((set (y 1) pc)))", "(file y 1 1)"},
		{"(form a \"\" () () ((set (flag y) pc)))", "(flag y)"},
		{"(form a \"\" () () ((jump (y 1))))", "(file y 1 1)"},
		{"(form a \"\" () () ((jump (flag y))))", "(flag y)"},
		{"(macro \"\" y ())", "(rel y 1 none)"},
		{"(rel a 1 insn y S)", "(class y uns 1)"},
		{"(rel a 1 pair y r S)", "(class y uns 1)"},
		{"(rel a 1 pair r y S)", "(class y uns 1)"},
		{"(use none y q)", "(class y uns 1)"},
		{"(use none r y)", "(rel y 1 none)"},
		{"(relax y o q)", "(rel y 1 none)"},
		{"(relax q y q)", "(form y \"\" () () ())"},
		{"(relax q o y)", "(rel y 1 none)"},
	} {
		wrong(t, c.item, api.ErrIsaName)
		wrong(t, c.item+c.ahead, api.ErrIsaName)
		right(t, c.ahead+c.item)
		for _, other := range []string{"(file y 1 1)", "(alias y x 1)", "(flag y)", "(class y uns 1)", "(form y \"\" () () ())", "(rel y 1 none)", "(num y 1)", "(reg y x 1)"} {
			if other != c.ahead {
				refuses(t, start+other+c.item, startItems+1, api.ErrIsaName)
			}
		}
	}
	// A class may not name a file by its alias; a form's operands are named behind them alone.
	refuses(t, start+"(alias y x 1) (class a reg y 1)", startItems+1, api.ErrIsaName)
	wrong(t, "(form a \"\" () (d) ())", api.ErrIsaName)
	wrong(t, "(form y \"\" ((y y)) () ())", api.ErrIsaName)
	wrong(t, "(rel y 1 insn y S)", api.ErrIsaName)
}

// TestNamesOfFiles: none of the words that begin lists of terms and effects.
func TestNamesOfFiles(t *testing.T) {
	for _, s := range strings.Fields("c add sub mul and or xor shl shr sar divu remu divs rems eq ltu lts cat not neg imm flag ld if sx zx ex set st jump trap sys when") {
		wrong(t, "(file "+s+" 1 1)", api.ErrIsaName)
		wrong(t, "(file "+s+")", api.ErrIsaName)
		wrong(t, "(file "+s+" x x)", api.ErrIsaName)
		wrong(t, "(file \""+s+"\" 1 1)", api.ErrIsa)
		right(t, "(file "+s+"0 1 1)")
		right(t, strings.ReplaceAll("(alias # x 1) (flag #) (class # uns 1) (form # \"\" ((# r)) () ((jump (x #)))) (rel # 1 none) (num # 1) (reg # x 1)", "#", s))
	}
	for _, s := range []string{"pc", "next", "page", "S", "A", "P", "G", "T", "H", "none", "zero", "word", "signed", "Add", "C", "imm.", "file", "reg"} {
		right(t, "(file "+s+" 1 1) (form k \"\" () () ((set ("+s+" 1) ("+s+" 2))))")
	}
}

// P4.1: counts

// TestCounts: as many as may be, and one more.
func TestCounts(t *testing.T) {
	const first = "(isa t word)"
	for _, c := range []struct {
		ahead, item string
		most        int
		count       func(d api.Desc) int
	}{
		{"", "(file k# 1 1)", 8, func(d api.Desc) int { return len(d.Files) }},
		{"(file x 1 1)", "(alias k# x 1)", 256, func(d api.Desc) int { return len(d.Aliases) }},
		{"", "(flag k#)", 16, func(d api.Desc) int { return len(d.Flags) }},
		{"", "(class k# uns 1)", 64, func(d api.Desc) int { return len(d.Classes) }},
		{"", "(form k# \"\" () () ())", 512, func(d api.Desc) int { return len(d.Forms) }},
		{"", "(rel k# 1 none)", 128, func(d api.Desc) int { return len(d.Rels) }},
		{"", "(num k# 1)", 64, func(d api.Desc) int { return len(d.Nums) }},
		{"(file x 1 1)", "(reg k# x 1)", 64, func(d api.Desc) int { return len(d.Regs) }},
		{"", "(macro \"\" none ())", 32, func(d api.Desc) int { return len(d.Macros) }},
		{"(class r uns 1) (rel q 1 none)", "(use none r q)", 128, func(d api.Desc) int { return len(d.Uses) }},
		{"(rel q 1 none) (form o \"\" () () ())", "(relax q o q)", 16, func(d api.Desc) int { return len(d.Relaxes) }},
	} {
		all := first + c.ahead + many(c.most, c.item)
		d, n, e := isadl.Parse(all)
		if n != 0 || e != api.OK || c.count(d) != c.most {
			t.Error(c.item, n, e)
		}
		comesBack(t, d)
		ahead, _, _ := sexp.Parse(first + c.ahead)
		place := len(ahead) + c.most
		refuses(t, all+strings.ReplaceAll(c.item, "#", "new"), place, api.ErrIsaMany)
		kind, _, _ := strings.Cut(c.item, " ")
		if !strings.Contains(c.item, "#") {
			for _, rest := range []string{")", " 7)", " zz zz zz)", " () ())"} {
				refuses(t, all+kind+rest, place, api.ErrIsaMany)
			}
			continue
		}
		for rest, e := range map[string]api.Errno{
			" new)": api.ErrIsaMany, " new zz zz zz zz)": api.ErrIsaMany, " new () () () 7)": api.ErrIsaMany,
			")": api.ErrIsa, " 7)": api.ErrIsa, " \"new\")": api.ErrIsa, " (new))": api.ErrIsa,
			" k0)": api.ErrIsaName, " k1 zz zz zz)": api.ErrIsaName,
		} {
			refuses(t, all+kind+rest, place, e)
		}
	}
	files := first + many(8, "(file k# 1 1)")
	refuses(t, files+"(file add 1 1)", 9, api.ErrIsaName)
	refuses(t, files+"(file pc 1 1)", 9, api.ErrIsaMany)
}

// TestCountsWithinForms: of operands behind the name, of pieces and effects behind the one that is too many.
func TestCountsWithinForms(t *testing.T) {
	six := many(6, "(k# r)")
	if d := right(t, "(form k \"\" ("+six+") () ())"); len(d.Forms[1].Args) != 6 {
		t.Error(d.Forms)
	}
	for s, e := range map[string]api.Errno{
		"(new r)": api.ErrIsaMany, "(new)": api.ErrIsaMany, "(new zz)": api.ErrIsaMany, "(new 7 7)": api.ErrIsaMany, "(k0 r)": api.ErrIsaName, "(k5)": api.ErrIsaName, "()": api.ErrIsa, "(7 r)": api.ErrIsa, "7": api.ErrIsa, "new": api.ErrIsa,
	} {
		wrong(t, "(form k \"\" ("+six+s+") () ())", e)
		wrong(t, "(form k \"\" ("+six+s+" 7) (zz))", e)
	}
	if d := right(t, "(form k \"\" ((d r)) ("+many(64, ".01")+") ("+many(64, "(trap #)")+"))"); len(d.Forms[1].Pieces) != 64 || len(d.Forms[1].Sem) != 64 || d.Forms[1].Sem[63].A != 63 {
		t.Error(d.Forms)
	}
	for s, e := range map[string]api.Errno{
		".01": api.ErrIsaMany, "d": api.ErrIsaMany, "d[1]": api.ErrIsaMany, ".2": api.ErrIsa, "7": api.ErrIsa, "zz": api.ErrIsaName, "d[": api.ErrIsa,
	} {
		wrong(t, "(form k \"\" ((d r)) ("+many(64, ".01")+s+") ())", e)
		wrong(t, "(form k \"\" ((d r)) ("+many(64, ".01")+s+" zz) 7)", e)
	}
	for s, e := range map[string]api.Errno{
		"(sys)": api.ErrIsaMany, "(jump (x d))": api.ErrIsaMany, "(sys 1)": api.ErrIsa, "(foo)": api.ErrIsa, "7": api.ErrIsa, "(jump (x zz))": api.ErrIsaName, "(jump (zz))": api.ErrIsaName,
	} {
		wrong(t, "(form k \"\" ((d r)) () ("+many(64, "(sys)")+s+"))", e)
		wrong(t, "(form k \"\" ((d r)) () ("+many(64, "(sys)")+s+" (foo)) 7)", e)
	}
	// The effects of a when are its own.
	if d := right(t, "(form k \"\" () () ("+many(64, "(when pc (sys) (sys))")+"))"); len(d.Forms[1].Sem) != 64 {
		t.Error(d.Forms)
	}
	if d := right(t, "(form k \"\" () () ((when pc "+many(100, "(sys)")+")))"); len(d.Forms[1].Sem[0].Kids) != 101 {
		t.Error(d.Forms)
	}
}

// TestCountsWithinItems: of numbers behind except, of a macro's lines.
func TestCountsWithinItems(t *testing.T) {
	for _, class := range []string{"reg x 1 ", "reg x 1 plus 1 ", "uns 1 ", "sgn 1 shift 1 ", "pc 1 ", "nx 1 "} {
		if d := right(t, "(class k "+class+"except "+many(8, "-1#")+")"); len(d.Classes[3].Except) != 8 || d.Classes[3].Except[7] != -17 {
			t.Error(d.Classes)
		}
		for s, e := range map[string]api.Errno{"9": api.ErrIsaMany, "-9": api.ErrIsaMany, "9 zz": api.ErrIsaMany, "9 9": api.ErrIsaMany, "zz": api.ErrIsa, "\"9\"": api.ErrIsa, "(9) 9": api.ErrIsa, "plus 3": api.ErrIsa, "shift 3": api.ErrIsa} {
			wrong(t, "(class k "+class+"except "+many(8, "#")+s+")", e)
		}
	}
	if d := right(t, "(macro \"\" none ("+many(8, "\"#\"")+"))"); len(d.Macros[0].Lines) != 8 || d.Macros[0].Lines[7] != "7" {
		t.Error(d.Macros)
	}
	for s, e := range map[string]api.Errno{"\"\"": api.ErrIsaMany, "\"\" 7": api.ErrIsaMany, "7": api.ErrIsa, "zz": api.ErrIsa, "() \"\"": api.ErrIsa} {
		wrong(t, "(macro \"\" none ("+many(8, "\"#\"")+s+"))", e)
		wrong(t, "(macro \"\" none ("+many(8, "\"#\"")+s+") 7)", e)
	}
}

// P4.1: shapes that are none, and which error counts

func TestShapes(t *testing.T) {
	for _, s := range []string{
		"", " \n ; (isa t word)", "7", "isa", "isa toy word", "\"(isa toy word)\"", "()", "(isa)", "(isa toy)", "(isa word)", "(isa toy foo)", "(isa toy words)", "(isa toy 1)", "(isa toy \"word\")", "(isa toy word word)", "(isa toy word 1)",
		"(isa 7 word)", "(isa \"toy\" word)", "(isa (toy) word)", "((isa toy word))", "(\"isa\" toy word)", "(7 toy word)", "(ISA toy word)", "(isa toy (word))",
		"(file x 1 1) (isa toy word)", "(alias a y 1)", "(file add 1 1)", "(foo) (isa toy word)", "7 (isa toy word)", "(file) (foo)",
	} {
		refuses(t, s, 0, api.ErrIsa)
	}
	for _, s := range []string{
		"7", "foo", "\"foo\"", "()", "(7)", "(\"flag\" k)", "((flag k))", "(foo)", "(flags k)", "(Flag k)", "(word k)", "(add S A)", "(isa toy word)", "(isa t bytes)", "(isa)", "(isa 7 zz)",
		"(file)", "(file 7 1 1)", "(file \"k\" 1 1)", "(file (k) 1 1)", "(file k)", "(file k 1)", "(file k 1 1 1)", "(file k 1 1 zero)", "(file k 1 1 zero 1 1)", "(file k 1 1 zero 0 zero 0)", "(file k 1 1 nought 1)", "(file k 1 1 \"zero\" 1)",
		"(file k -1 1)", "(file k 1 -1)", "(file k 1 1 zero -1)", "(file k x 1)", "(file k 1 x)", "(file k 1 1 zero x)", "(file k zero 0)", "(file k (1) 1)",
		"(alias)", "(alias 7 x 1)", "(alias k)", "(alias k x)", "(alias k x -1)", "(alias k x x)", "(alias k x 1 1)", "(alias k 7 1)", "(alias k \"x\" 1)", "(alias \"k\" x 1)",
		"(flag)", "(flag 7)", "(flag \"k\")", "(flag (k))", "(flag k k)", "(flag k 1)",
		"(class)", "(class 7 uns 1)", "(class k)", "(class k foo 1)", "(class k 2 1)", "(class k none 1)", "(class k reg)", "(class k reg x)", "(class k reg 1 1)", "(class k reg x x)", "(class k reg x -1)", "(class k reg x 1 1)", "(class k reg x 1 plus)", "(class k reg x 1 plus x)",
		"(class k reg x 1 plus -1)", "(class k reg x 1 shift 1)", "(class k reg x 1 plus 1 plus 1)", "(class k reg x 1 plus 1 shift 1)", "(class k reg x 1 except 1 plus 1)", "(class k reg x 1 except x)", "(class k reg x 1 except (1))", "(class k reg x 1 foo 1)",
		"(class k uns)", "(class k uns x)", "(class k uns -1)", "(class k uns 1 plus 1)", "(class k uns 1 1)", "(class k uns 1 shift)", "(class k uns 1 shift -1)", "(class k uns 1 shift x)", "(class k uns 1 shift 1 1)", "(class k uns 1 shift 1 shift 1)", "(class k uns 1 except 1 shift 1)", "(class k uns 1 except \"1\")",
		"(class k sgn)", "(class k sgn x 1)", "(class k sgn 1 plus 1)", "(class k pc)", "(class k pc -1)", "(class k pc 1 plus 1)", "(class k nx)", "(class k nx 1 plus 1)", "(class k nx 1 shift 1 1)", "(class k next 1)", "(class \"k\" uns 1)",
		"(form)", "(form 7 \"\" () () ())", "(form \"k\" \"\" () () ())", "(form k)", "(form k k () () ())", "(form k 7 () () ())", "(form k () () ())", "(form k \"\")", "(form k \"\" ())", "(form k \"\" () ())", "(form k \"\" () () () ())", "(form k \"\" () () () 7)",
		"(form k \"\" 7 () ())", "(form k \"\" (a r) () ())", "(form k \"\" (()) () ())", "(form k \"\" ((a)) () ())", "(form k \"\" ((a r r)) () ())", "(form k \"\" ((7 r)) () ())", "(form k \"\" ((a 0)) () ())", "(form k \"\" ((\"a\" r)) () ())", "(form k \"\" ((a \"r\")) () ())", "(form k \"\" (((a r))) () ())",
		"(form k \"\" () 7 ())", "(form k \"\" () .01 ())", "(form k \"\" () \".01\" ())", "(form k \"\" () (()) ())", "(form k \"\" () () 7)", "(form k \"\" () () (sys))", "(form k \"\" () () sys)", "(form k \"\" () () (7))",
		"(macro)", "(macro m none ())", "(macro 7 none ())", "(macro \"\")", "(macro \"\" none)", "(macro \"\" ())", "(macro \"\" -1 ())", "(macro \"\" \"q\" ())", "(macro \"\" none \"o\")", "(macro \"\" none o)", "(macro \"\" none () ())", "(macro \"\" none (o))", "(macro \"\" none (7))", "(macro \"\" none ((\"o\")))", "(macro \"\" q 7)", "(macro \"\" none \"o\" \"o\")", "(macro k \"\" none ())",
		"(rel)", "(rel 7 1 none)", "(rel k)", "(rel k 1)", "(rel k none)", "(rel k -1 none)", "(rel k x none)", "(rel k 1 foo)", "(rel k 1 1)", "(rel k 1 \"none\")", "(rel k 1 reg)", "(rel k 1 none 1)", "(rel k 1 none ())", "(rel \"k\" 1 none)",
		"(rel k 1 data)", "(rel k 1 data 4)", "(rel k 1 data S)", "(rel k 1 data -1 S)", "(rel k 1 data x S)", "(rel k 1 data r S)", "(rel k 1 insn)", "(rel k 1 insn r)", "(rel k 1 insn 0 S)", "(rel k 1 insn \"r\" S)", "(rel k 1 pair)", "(rel k 1 pair r)", "(rel k 1 pair r i)", "(rel k 1 pair r 1 S)", "(rel k 1 pair 1 r S)",
		"(use)", "(use lo)", "(use lo r)", "(use 7 r q)", "(use \"lo\" r q)", "(use () r q)", "(use lo 0 q)", "(use lo r 0)", "(use lo r q 7)", "(use lo r q foo)", "(use lo r q end end)", "(use lo r q \"end\")", "(use lo r q none)", "(use none)", "(use none r)",
		"(relax)", "(relax q)", "(relax q o)", "(relax q o q q)", "(relax 0 o q)", "(relax q 0 q)", "(relax q o 0)", "(relax \"q\" o q)",
		"(num)", "(num k)", "(num 7 7)", "(num k k)", "(num k 7 7)", "(num k \"7\")", "(num k (7))", "(num \"k\" 7)",
		"(reg)", "(reg 7 x 1)", "(reg k)", "(reg k x)", "(reg k x -1)", "(reg k x x)", "(reg k x 1 1)", "(reg k 7 1)", "(reg \"k\" x 1)",
	} {
		wrong(t, s, api.ErrIsa)
	}
}

// TestFirstErrorCounts: within an item from left to right, and of items the first.
func TestFirstErrorCounts(t *testing.T) {
	for s, e := range map[string]api.Errno{
		"(file x -1 1)":                                      api.ErrIsaName,
		"(file y -1 1 zero zz)":                              api.ErrIsa,
		"(alias a zz -1)":                                    api.ErrIsaName,
		"(alias a zz)":                                       api.ErrIsaName,
		"(alias 7 zz 1)":                                     api.ErrIsa,
		"(reg a zz zz)":                                      api.ErrIsaName,
		"(flag z 7)":                                         api.ErrIsaName,
		"(class r foo 1)":                                    api.ErrIsaName,
		"(class k foo zz)":                                   api.ErrIsa,
		"(class k reg zz -1)":                                api.ErrIsaName,
		"(class k uns -1 except zz)":                         api.ErrIsa,
		"(form o 7)":                                         api.ErrIsaName,
		"(form k 7 ((a zz)))":                                api.ErrIsa,
		"(form k \"\" ((a zz) 7) (zz))":                      api.ErrIsaName,
		"(form k \"\" ((a) (b zz)) (zz))":                    api.ErrIsa,
		"(form k \"\" ((a r)) (.2 zz))":                      api.ErrIsa,
		"(form k \"\" ((a r)) (zz .2))":                      api.ErrIsaName,
		"(form k \"\" ((a r)) (.0) (7 (zz)))":                api.ErrIsa,
		"(form k \"\" ((a r)) (zz) (7))":                     api.ErrIsaName,
		"(form k \"\" ((a r)) (.0) ((jump (add (zz 1) 7))))": api.ErrIsaName,
		"(form k \"\" ((a r)) (.0) ((jump (add 7 (zz 1)))))": api.ErrIsa,
		"(form k \"\" ((a r)) (.0) ((jump (ex 1 (zz) 7))))":  api.ErrIsa,
		"(form k \"\" ((a r)) (.0) ((set (x zz) 7)))":        api.ErrIsaName,
		"(form k \"\" ((a r)) (.0) ((when 7 (jump (zz)))))":  api.ErrIsa,
		"(form k \"\" ((a r)) (.0) () (zz))":                 api.ErrIsa,
		"(macro 7 zz ())":                                    api.ErrIsa,
		"(macro \"\" zz 7)":                                  api.ErrIsaName,
		"(rel q zz none)":                                    api.ErrIsaName,
		"(rel k zz insn zz)":                                 api.ErrIsa,
		"(rel k 1 foo zz S)":                                 api.ErrIsa,
		"(rel k 1 insn zz 7 7)":                              api.ErrIsaName,
		"(rel k 1 insn zz)":                                  api.ErrIsaName,
		"(rel k 1 pair zz 7 S)":                              api.ErrIsaName,
		"(rel k 1 pair 7 zz S)":                              api.ErrIsa,
		"(use 7 zz zz)":                                      api.ErrIsa,
		"(use lo zz 7)":                                      api.ErrIsaName,
		"(use lo 7 zz)":                                      api.ErrIsa,
		"(use lo r zz foo)":                                  api.ErrIsaName,
		"(relax zz 7 7)":                                     api.ErrIsaName,
		"(relax q 7 zz)":                                     api.ErrIsa,
		"(relax q zz 7)":                                     api.ErrIsaName,
		"(num 7 zz)":                                         api.ErrIsa,
		"(isa two word) (flag z)":                            api.ErrIsa,
		"(num k 1 1) (num k 1)":                              api.ErrIsa,
		"(use lo zz q) (foo) (file x 1 1)":                   api.ErrIsaName,
		"(file add 1 1) (isa t word) (foo)":                  api.ErrIsaName,
		"(foo) (file add 1 1) (flag z)":                      api.ErrIsa,
		"(macro zz zz zz) (alias k zz 1)":                    api.ErrIsa,
		"(class k uns 1 except 1 1 1 1 1 1 1 1 1 zz) (foo)":  api.ErrIsaMany,
	} {
		wrong(t, s, e)
	}
	refuses(t, start+many(5, "(num k# 1)")+"(flag z) (num k0 1)", startItems+5, api.ErrIsaName)
	refuses(t, start+many(16, "(flag k#)")+"(foo)", startItems+14, api.ErrIsaMany)
	// What is given within an item with an error isn't given, since the error counts.
	refuses(t, start+"(file y 1) (class k reg y 1)", startItems, api.ErrIsa)
}

// TestErrorsOfLayer3 come through with its place, ahead of all of layer 4's.
func TestErrorsOfLayer3(t *testing.T) {
	refuses(t, "(", 1, api.ErrSexp)
	refuses(t, start+"(foo", len(start)+4, api.ErrSexp)
	refuses(t, "(foo) (file)\n 007 (", 14, api.ErrSexp)
	refuses(t, "\x00", 0, api.ErrSexp)
	refuses(t, "(foo \"a\n\")", 5, api.ErrSexp)
	refuses(t, "(foo \"\xff\")", 6, api.ErrSexp)
	refuses(t, start+")", len(start), api.ErrSexp)
	refuses(t, start+"(num k 1000000000000000000)", len(start)+7, api.ErrSexp)
	refuses(t, start+"(num k -0)", len(start)+7, api.ErrSexp)
	refuses(t, strings.Repeat("(", 33), 32, api.ErrSexpMany)
	refuses(t, strings.Repeat("a ", api.MaxNodes+1), 2*api.MaxNodes, api.ErrSexpMany)
	refuses(t, strings.Repeat(" ", api.MaxIsaText+1), 0, api.ErrSexpMany)
	refuses(t, start+strings.Repeat(" ", api.MaxIsaText-len(start)+1), 0, api.ErrSexpMany)
	parses(t, start+strings.Repeat(" ", api.MaxIsaText-len(start)), begun())
	refuses(t, strings.Repeat("a ", api.MaxNodes), 0, api.ErrIsa)
	// As deep as lists may be.
	deep := func(n int) string {
		return start + strings.ReplaceAll(inForm, "#", "(jump "+strings.Repeat("(not ", n)+"pc"+strings.Repeat(")", n)+")")
	}
	if d, n, e := isadl.Parse(deep(29)); n != 0 || e != api.OK || len(d.Forms) != 2 {
		t.Error(n, e)
	} else {
		comesBack(t, d)
	}
	refuses(t, deep(30), strings.Index(deep(30), "pc")-5, api.ErrSexpMany)
}

// TestOfTheChapter: its example.
func TestOfTheChapter(t *testing.T) {
	parses(t, `(isa toy word) (file x 4 8) (class r reg x 2) (form inc "inc d" ((d r)) (.000000 d) ((set (x d) (add (x d) (c 8 1)))))`, api.Desc{
		Name: "toy", Order: 1,
		Files:   []api.File{{Name: "x", Count: 4, Width: 8, Zero: -1}},
		Classes: []api.Class{{Name: "r", Kind: 1, Bits: 2}},
		Forms: []api.Form{{
			Name: "inc", Syntax: "inc d", Args: []api.Arg{{Name: "d"}},
			Pieces: []api.Piece{{Arg: -1, Lit: "000000"}, {Hi: 1}},
			Sem:    []api.Term{{Op: 31, Kids: []api.Term{{Op: 1, Kids: []api.Term{{Op: 21}, {Op: 20, W: 8, A: 1}}}}}},
		}},
	})
}
