package targets_test

import (
	"crypto/sha256"
	"encoding/hex"
	"reflect"
	"slices"
	"strings"
	"testing"

	"dovetail/api"
	"dovetail/isacheck"
	"dovetail/isadl"
	"dovetail/targets"
)

// known are the targets' names, as the chapter tells them.
var known = []string{"rv64", "a64", "x64"}

// unknown are names of no target.
var unknown = []string{"", " ", "vax", "RV64", "A64", "X64", "rv64 ", " rv64", "rv", "rv644", "rv64\n", "rv64\x00", "a64a64", "x86-64", "aarch64", "64", "rv64 a64 x64", "\xff"}

// desc is a target's description.
func desc(t *testing.T, name string) api.Desc {
	t.Helper()
	d, ok := targets.Desc(name)
	if !ok {
		t.Fatal(name, "has no description")
	}
	return d
}

func TestNames(t *testing.T) {
	l := targets.Names()
	if !slices.Equal(l, known) {
		t.Fatal(l)
	}
	for i := range l[:cap(l)] {
		l[:cap(l)][i] = "vax"
	}
	if l := targets.Names(); !slices.Equal(l, known) {
		t.Error(l, "are kept")
	}
}

func TestText(t *testing.T) {
	for _, x := range []struct {
		name         string
		bytes, lines int
		sum          string
		first, last  string
	}{
		{"rv64", 14988, 215, "230b10a28380b1ef54eb556f83a33d6b1cf0e2f3c9c8de4a66b4943221ca6ebf", "(isa rv64 word)\n", "(reg tp x 4)\n"},
		{"a64", 11884, 157, "bf8b5254dd20335d8c51fc8c2694c39ab70f6a0e959863ccf2d3ee2d376077e8", "(isa a64 word)\n", "(reg tp t 0)\n"},
		{"x64", 18632, 167, "975cd132584cb6fc7c24750d13e853c08aa9c8bc04722decf02585d277e887ed", "(isa x64 bytes)\n", "(reg tp fs 0)\n"},
	} {
		s, ok := targets.Text(x.name)
		if !ok || len(s) != x.bytes || strings.Count(s, "\n") != x.lines {
			t.Error(x.name, ok, len(s), strings.Count(s, "\n"))
		}
		if sum := sha256.Sum256([]byte(s)); hex.EncodeToString(sum[:]) != x.sum {
			t.Error(x.name, "isn't as the chapter prints it")
		}
		if !strings.HasPrefix(s, x.first) || !strings.HasSuffix(s, x.last) {
			t.Error(x.name, "doesn't begin and end as the chapter prints it")
		}
	}
	for _, name := range unknown {
		if s, ok := targets.Text(name); s != "" || ok {
			t.Errorf("%q: %q %v", name, s, ok)
		}
	}
}

func TestDesc(t *testing.T) {
	for _, name := range known {
		d, ok := targets.Desc(name)
		text, _ := targets.Text(name)
		want, n, e := isadl.Parse(text)
		if !ok || n != 0 || e != api.OK || !reflect.DeepEqual(d, want) {
			t.Error(name, ok, n, e, "isn't what layer 4 reads")
		}
		if d.Name != name {
			t.Error(name, d.Name)
		}
		if s, e := isadl.Print(d); s != text || e != api.OK {
			t.Error(name, e, "isn't printed as its text")
		}
	}
	for _, name := range unknown {
		if d, ok := targets.Desc(name); ok || !reflect.DeepEqual(d, api.Desc{}) {
			t.Errorf("%q: %v %v", name, d, ok)
		}
	}
}

func TestDescHas(t *testing.T) {
	for name, want := range map[string][]int{
		"rv64": {api.OrderWord, 2, 32, 0, 23, 101, 14, 8, 1, 11, 15, 7},
		"a64":  {api.OrderWord, 4, 4, 4, 15, 72, 18, 15, 0, 6, 11, 7},
		"x64":  {api.OrderBytes, 3, 8, 4, 13, 102, 9, 9, 0, 0, 11, 7},
	} {
		d := desc(t, name)
		got := []int{d.Order, len(d.Files), len(d.Aliases), len(d.Flags), len(d.Classes), len(d.Forms), len(d.Rels), len(d.Uses), len(d.Relaxes), len(d.Macros), len(d.Nums), len(d.Regs)}
		if !slices.Equal(got, want) {
			t.Error(name, got, want)
		}
	}
}

func TestRight(t *testing.T) {
	for _, name := range known {
		if n, e := isacheck.Check(desc(t, name)); n != 0 || e != api.OK {
			t.Error(name, n, e)
		}
	}
}

// spoil writes over all that v leads to, spare room too.
func spoil(v reflect.Value) {
	switch v.Kind() {
	case reflect.Struct:
		for i := range v.NumField() {
			spoil(v.Field(i))
		}
	case reflect.Slice:
		v = v.Slice(0, v.Cap())
		for i := range v.Len() {
			spoil(v.Index(i))
		}
	case reflect.Array:
		for i := range v.Len() {
			spoil(v.Index(i))
		}
	case reflect.Pointer:
		if !v.IsNil() {
			spoil(v.Elem())
		}
	case reflect.String:
		v.SetString("spoilt")
	case reflect.Bool:
		v.SetBool(!v.Bool())
	case reflect.Int:
		v.SetInt(-77)
	case reflect.Uint8, reflect.Uint64:
		v.SetUint(77)
	default:
		panic(v.Kind().String())
	}
}

func TestDescIsNew(t *testing.T) {
	for _, name := range known {
		text, _ := targets.Text(name)
		want, _, _ := isadl.Parse(text)
		d := desc(t, name)
		spoil(reflect.ValueOf(&d).Elem())
		if reflect.DeepEqual(d, want) {
			t.Error(name, "isn't spoilt")
		}
		if d := desc(t, name); !reflect.DeepEqual(d, want) {
			t.Error(name, "is kept")
		}
	}
}
