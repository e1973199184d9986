package isacheck_test

import (
	"math"
	"strconv"
	"testing"

	"dovetail/api"
)

// P5.2

func TestOrder(t *testing.T) {
	bound(t, "order", func(d *api.Desc, n int) { d.Order = n }, []int{1, 2}, []int{0, 3, -1, -2}, -1, api.ErrCheck)
}

// number is a literal of 16 bits that makes a number.
func number(n int) api.Piece {
	s := strconv.FormatInt(int64(1<<16+n), 2)
	return api.Piece{Arg: -1, Lit: s[1:]}
}

// TestCounts: each list has as many parts as it may, and one more.
func TestCounts(t *testing.T) {
	for _, c := range []struct {
		what string
		most int
		put  func(d *api.Desc, n int)
	}{
		{"files", 8, func(d *api.Desc, n int) { d.Files = append(d.Files, api.File{Count: 1, Width: 1}) }},
		{"flags", 16, func(d *api.Desc, n int) { d.Flags = append(d.Flags, "f") }},
		{"classes", 64, func(d *api.Desc, n int) { d.Classes = append(d.Classes, api.Class{Kind: api.ClassUns, Bits: 1}) }},
		{"forms", 512, func(d *api.Desc, n int) { d.Forms = append(d.Forms, api.Form{Pieces: []api.Piece{number(n)}}) }},
	} {
		d := api.Desc{Order: api.OrderWord}
		for n := range c.most {
			c.put(&d, n)
		}
		checks(t, c.what, d, 0, api.OK)
		c.put(&d, c.most)
		checks(t, c.what+", one more", d, -1, api.ErrCheck)
		for n := range 3 * c.most {
			c.put(&d, c.most+1+n)
		}
		checks(t, c.what+", more", d, -1, api.ErrCheck)
	}
}

// TestCountsWithoutBound: the other lists may be of any length.
func TestCountsWithoutBound(t *testing.T) {
	d := toy()
	for range 1000 {
		d.Aliases = append(d.Aliases, d.Aliases[0])
		d.Regs = append(d.Regs, d.Regs[0])
		d.Rels = append(d.Rels, d.Rels[relPair])
		d.Uses = append(d.Uses, d.Uses[0])
		d.Relaxes = append(d.Relaxes, d.Relaxes[0])
		d.Macros = append(d.Macros, d.Macros[1])
		d.Nums = append(d.Nums, d.Nums[0])
		d.Classes[classW].Except = append(d.Classes[classW].Except, 1)
	}
	checks(t, "long lists", d, 0, api.OK)
}

// TestEveryPartCounts: a fault of the last part of a list is one, too.
func TestEveryPartCounts(t *testing.T) {
	for what, put := range map[string]func(d *api.Desc){
		"files":   func(d *api.Desc) { d.Files = append(d.Files, api.File{}) },
		"classes": func(d *api.Desc) { d.Classes = append(d.Classes, api.Class{}) },
		"aliases": func(d *api.Desc) { d.Aliases = append(d.Aliases, api.Alias{File: 3}) },
		"regs":    func(d *api.Desc) { d.Regs = append(d.Regs, api.Alias{File: 3}) },
		"rels":    func(d *api.Desc) { d.Rels = append(d.Rels, api.Rel{}) },
		"uses":    func(d *api.Desc) { d.Uses = append(d.Uses, api.Use{Rel: relNone}) },
		"relaxes": func(d *api.Desc) { d.Relaxes = append(d.Relaxes, api.Relaxed{}) },
		"macros":  func(d *api.Desc) { d.Macros = append(d.Macros, api.Macro{Rel: relNone}) },
	} {
		d := toy()
		put(&d)
		checks(t, what, d, -1, api.ErrCheck)
	}
}

// withFile is a way to set a number of a file behind toy's.
func withFile(set func(f *api.File, n int)) func(d *api.Desc, n int) {
	return func(d *api.Desc, n int) {
		f := api.File{Count: 64, Width: 64, Zero: -1}
		set(&f, n)
		d.Files = append(d.Files, f)
	}
}

func TestFiles(t *testing.T) {
	count := withFile(func(f *api.File, n int) { f.Count = n })
	bound(t, "Count", count, []int{1, 2, 63, 64}, []int{0, -1, 65}, -1, api.ErrCheck)
	width := withFile(func(f *api.File, n int) { f.Width = n })
	bound(t, "Width", width, []int{1, 2, 63, 64}, []int{0, -1, 65, 128}, -1, api.ErrCheck)
	for _, count := range []int{1, 2, 16, 64} {
		zero := withFile(func(f *api.File, n int) { f.Count, f.Zero = count, n })
		bound(t, "Zero of "+strconv.Itoa(count), zero, []int{-1, 0, count - 1}, []int{-2, count, count + 1}, -1, api.ErrCheck)
	}
}

// TestAliases: aliases, and registers with a task.
func TestAliases(t *testing.T) {
	file := func(d *api.Desc, n int) { d.Aliases[0] = api.Alias{File: n} }
	bound(t, "file of an alias", file, []int{fileX, fileY, fileV}, []int{-1, 3}, -1, api.ErrCheck)
	file = func(d *api.Desc, n int) { d.Regs[0] = api.Alias{File: n} }
	bound(t, "file of a reg", file, []int{fileX, fileY, fileV}, []int{-1, 3}, -1, api.ErrCheck)
	for f, count := range []int{4, 16, 64} {
		num := func(d *api.Desc, n int) { d.Aliases[1] = api.Alias{File: f, Num: n} }
		bound(t, "number of an alias", num, []int{0, 1, count - 1}, []int{-1, count, count + 1}, -1, api.ErrCheck)
		num = func(d *api.Desc, n int) { d.Regs[0] = api.Alias{File: f, Num: n} }
		bound(t, "number of a reg", num, []int{0, 1, count - 1}, []int{-1, count, count + 1}, -1, api.ErrCheck)
	}
}

// withClass is a way to set a number of a class behind toy's.
func withClass(c api.Class, set func(c *api.Class, n int)) func(d *api.Desc, n int) {
	return func(d *api.Desc, n int) {
		set(&c, n)
		d.Classes = append(d.Classes, c)
	}
}

func TestRegisterClasses(t *testing.T) {
	v := api.Class{Kind: api.ClassReg, File: fileV, Bits: 1}
	set := withClass(v, func(c *api.Class, n int) { c.Bits = n })
	bound(t, "Bits", set, []int{1, 2, 5, 6}, []int{0, -1, 7, 63, 64, 65}, -1, api.ErrCheck)
	set = withClass(v, func(c *api.Class, n int) { c.Shift = n })
	bound(t, "Shift", set, []int{0}, []int{1, -1}, -1, api.ErrCheck)
	set = withClass(v, func(c *api.Class, n int) { c.File = n })
	bound(t, "File", set, []int{fileX, fileY, fileV}, []int{-1, 3, 4}, -1, api.ErrCheck)
	for bits, most := range []int{1: 62, 2: 60, 3: 56, 4: 48, 5: 32, 6: 0} {
		if bits == 0 {
			continue
		}
		set = withClass(v, func(c *api.Class, n int) { c.Bits, c.Plus = bits, n })
		bound(t, "Plus with Bits "+strconv.Itoa(bits), set, []int{0, most}, []int{-1, most + 1, 64, math.MaxInt - 2}, -1, api.ErrCheck)
	}
}

// TestRegisterClassesOfSmallFiles: the last register of a class must be in its file.
func TestRegisterClassesOfSmallFiles(t *testing.T) {
	for count := 1; count <= 64; count++ {
		for bits := 1; bits <= 6; bits++ {
			for plus := range 66 {
				d := api.Desc{Order: 1, Files: []api.File{{Count: count, Width: 1}}, Classes: []api.Class{{Kind: api.ClassReg, Bits: bits, Plus: plus}}}
				place, want := 0, api.OK
				last := plus
				for range 1<<bits - 1 {
					last++
				}
				if last >= count {
					place, want = -1, api.ErrCheck
				}
				checks(t, strconv.Itoa(count)+" "+strconv.Itoa(bits)+" "+strconv.Itoa(plus), d, place, want)
			}
		}
	}
}

func TestNumberClasses(t *testing.T) {
	for _, c := range []struct{ kind, most int }{{api.ClassUns, 62}, {api.ClassSgn, 64}, {api.ClassPc, 64}, {api.ClassNext, 64}} {
		what := "kind " + strconv.Itoa(c.kind) + ": "
		one := api.Class{Kind: c.kind, Bits: 1}
		set := withClass(one, func(c *api.Class, n int) { c.Plus = n })
		bound(t, what+"Plus", set, []int{0}, []int{1, -1}, -1, api.ErrCheck)
		for _, other := range []int{1, 2, 8, 31, c.most - 1, c.most} {
			left := c.most - other
			set = withClass(one, func(c *api.Class, n int) { c.Bits, c.Shift = other, n })
			bound(t, what+"Shift with Bits "+strconv.Itoa(other), set, []int{0, left / 2, left}, []int{-1, left + 1, 64, 65, math.MinInt + other, math.MaxInt - other, math.MaxInt - other + 1}, -1, api.ErrCheck)
		}
		for _, other := range []int{0, 1, 2, 8, 31, c.most - 1} {
			left := c.most - other
			set = withClass(one, func(c *api.Class, n int) { c.Shift, c.Bits = other, n })
			bound(t, what+"Bits with Shift "+strconv.Itoa(other), set, []int{1, left/2 + 1, left}, []int{0, -1, left + 1, 65, math.MaxInt - other, math.MaxInt - other + 1}, -1, api.ErrCheck)
		}
	}
}

// TestNumberClassesWrapRound: Bits and Shift whose sum is small only because it wraps round.
func TestNumberClassesWrapRound(t *testing.T) {
	for _, kind := range []int{api.ClassUns, api.ClassSgn, api.ClassPc, api.ClassNext} {
		for _, p := range [][2]int{{math.MaxInt, math.MaxInt}, {math.MaxInt, math.MinInt + 2}, {math.MinInt, math.MinInt}, {math.MinInt + 2, math.MaxInt}, {1000, -990}, {-990, 1000}, {9, -1}, {-1, 9}, {0, 8}} {
			d := toy()
			d.Classes = append(d.Classes, api.Class{Kind: kind, Bits: p[0], Shift: p[1]})
			checks(t, strconv.Itoa(kind)+" "+strconv.Itoa(p[0])+" "+strconv.Itoa(p[1]), d, -1, api.ErrCheck)
		}
	}
}

func TestKindsOfClasses(t *testing.T) {
	set := withClass(api.Class{Bits: 2}, func(c *api.Class, n int) { c.Kind = n })
	bound(t, "Kind", set, []int{1, 2, 3, 4, 5}, []int{0, 6, -1, 7}, -1, api.ErrCheck)
}

// TestNotLookedAt: what the chapter says nothing of may be anything.
func TestNotLookedAt(t *testing.T) {
	d := toy()
	for n := range d.Classes {
		d.Classes[n].Name = ""
		if d.Classes[n].Kind != api.ClassReg {
			d.Classes[n].File = math.MaxInt
		}
	}
	d.Classes[classR].Except = []int{math.MinInt, -1, 4, 1000, math.MaxInt, math.MaxInt}
	d.Classes[classS].Except = []int{128, -129, math.MaxInt}
	d.Files[fileX].Name, d.Files[fileY].Name = "\x00", "\x00"
	d.Flags[0], d.Flags[1] = "", ""
	d.Name = "\xff"
	d.Nums[0] = api.Named{Num: math.MinInt}
	d.Forms[0].Syntax, d.Forms[0].Args[0].Name = "\"", ""
	d.Macros[0] = api.Macro{Rel: -1, Syntax: "\n", Lines: []string{"\""}}
	checks(t, "odd parts", d, 0, api.OK)
}
