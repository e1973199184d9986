package targets_test

import (
	"math"
	"reflect"
	"testing"

	"dovetail/api"
	"dovetail/targets"
)

// nums are the nums of the targets; rv64 alone has the last four.
var nums = map[string]map[string]int{
	"rv64": {"machine": 243, "page": 4096, "base": 65536, "write": 64, "exit": 93, "variant": 1, "gap": 0, "abs32": 1, "abs64": 2, "nop": 1, "nopsize": 2,
		"align": 43, "relaxed": 51, "widenop": 19, "widesize": 4},
	"a64": {"machine": 183, "page": 4096, "base": 4194304, "write": 64, "exit": 93, "variant": 1, "gap": 16, "abs32": 258, "abs64": 257, "nop": 3573751839, "nopsize": 4},
	"x64": {"machine": 62, "page": 4096, "base": 4194304, "write": 1, "exit": 60, "variant": 2, "gap": 0, "abs32": 10, "abs64": 1, "nop": 144, "nopsize": 1},
}

func TestNumsOfTargets(t *testing.T) {
	for _, name := range known {
		d := desc(t, name)
		// What rv64 has and the others don't is asked of all of them.
		for what := range nums["rv64"] {
			want, has := nums[name][what]
			if n, ok := targets.Num(d, what); n != want || ok != has {
				t.Error(name, what, n, ok, want, has)
			}
		}
		for _, what := range []string{"", "sp", "Machine", "machine ", "mach", "R_RISCV_NONE", "addi", name} {
			if n, ok := targets.Num(d, what); n != 0 || ok {
				t.Errorf("%s: %q: %d %v", name, what, n, ok)
			}
		}
	}
}

func TestRegsOfTargets(t *testing.T) {
	want := map[string][]api.Alias{
		"rv64": {{Name: "sysno", File: 0, Num: 17}, {Name: "ret", File: 0, Num: 10}, {Name: "arg0", File: 0, Num: 10}, {Name: "arg1", File: 0, Num: 11}, {Name: "arg2", File: 0, Num: 12}, {Name: "sp", File: 0, Num: 2}, {Name: "tp", File: 0, Num: 4}},
		"a64":  {{Name: "sysno", File: 0, Num: 8}, {Name: "ret", File: 0, Num: 0}, {Name: "arg0", File: 0, Num: 0}, {Name: "arg1", File: 0, Num: 1}, {Name: "arg2", File: 0, Num: 2}, {Name: "sp", File: 1, Num: 0}, {Name: "tp", File: 2, Num: 0}},
		"x64":  {{Name: "sysno", File: 0, Num: 0}, {Name: "ret", File: 0, Num: 0}, {Name: "arg0", File: 0, Num: 7}, {Name: "arg1", File: 0, Num: 6}, {Name: "arg2", File: 0, Num: 2}, {Name: "sp", File: 0, Num: 4}, {Name: "tp", File: 1, Num: 0}},
	}
	for _, name := range known {
		d := desc(t, name)
		for _, x := range want[name] {
			if r, ok := targets.Reg(d, x.Name); r != x || !ok {
				t.Error(name, x, r, ok)
			}
		}
		// Aliases, files and nums are no registers with a task.
		for _, what := range []string{"", "a0", "ra", "lr", "fp", "xzr", "rax", "x", "r", "machine", "SP", "sp ", "arg", "arg3"} {
			if r, ok := targets.Reg(d, what); r != (api.Alias{}) || ok {
				t.Errorf("%s: %q: %v %v", name, what, r, ok)
			}
		}
	}
}

func TestNumOfAny(t *testing.T) {
	d := api.Desc{Nums: []api.Named{{Name: "a", Num: 5}, {Name: "b", Num: 0}, {Name: "", Num: -3}, {Name: "b", Num: 7}, {Name: "a", Num: 6}, {Name: "c", Num: math.MinInt}, {Name: "\xff ", Num: math.MaxInt}, {Name: "", Num: 4}},
		Regs: []api.Alias{{Name: "r", Num: 1}}, Aliases: []api.Alias{{Name: "s", Num: 1}}}
	for _, x := range []struct {
		name string
		n    int
		ok   bool
	}{
		{"a", 5, true}, {"b", 0, true}, {"", -3, true}, {"c", math.MinInt, true}, {"\xff ", math.MaxInt, true},
		{"d", 0, false}, {"A", 0, false}, {"ab", 0, false}, {"a ", 0, false}, {"r", 0, false}, {"s", 0, false}, {"\xff", 0, false},
	} {
		if n, ok := targets.Num(d, x.name); n != x.n || ok != x.ok {
			t.Errorf("%q: %d %v", x.name, n, ok)
		}
		if n, ok := targets.Num(api.Desc{Regs: d.Regs, Aliases: d.Aliases}, x.name); n != 0 || ok {
			t.Errorf("%q, of nothing: %d %v", x.name, n, ok)
		}
	}
}

func TestRegOfAny(t *testing.T) {
	d := api.Desc{Regs: []api.Alias{{Name: "a", File: 2, Num: 5}, {Name: "b"}, {Name: "", File: -1, Num: -3}, {Name: "b", File: 1, Num: 7}, {Name: "a", File: 3, Num: 6}, {Name: "c", File: math.MinInt, Num: math.MaxInt}},
		Nums: []api.Named{{Name: "n", Num: 1}}, Aliases: []api.Alias{{Name: "s", Num: 1}}}
	for _, x := range []struct {
		name string
		r    api.Alias
		ok   bool
	}{
		{"a", api.Alias{Name: "a", File: 2, Num: 5}, true}, {"b", api.Alias{Name: "b"}, true}, {"", api.Alias{File: -1, Num: -3}, true}, {"c", api.Alias{Name: "c", File: math.MinInt, Num: math.MaxInt}, true},
		{"d", api.Alias{}, false}, {"A", api.Alias{}, false}, {"ab", api.Alias{}, false}, {"a ", api.Alias{}, false}, {"n", api.Alias{}, false}, {"s", api.Alias{}, false},
	} {
		if r, ok := targets.Reg(d, x.name); r != x.r || ok != x.ok {
			t.Errorf("%q: %v %v", x.name, r, ok)
		}
		if r, ok := targets.Reg(api.Desc{Nums: d.Nums, Aliases: d.Aliases}, x.name); r != (api.Alias{}) || ok {
			t.Errorf("%q, of nothing: %v %v", x.name, r, ok)
		}
	}
}

// TestNothingChanges asks Num and Reg of a description and holds it, spare room too, against what it was.
func TestNothingChanges(t *testing.T) {
	make := func() api.Desc {
		return api.Desc{
			Nums: append(make([]api.Named, 0, 9), api.Named{Name: "a", Num: 1}, api.Named{Name: "a", Num: 2}),
			Regs: append(make([]api.Alias, 0, 9), api.Alias{Name: "a", Num: 1}, api.Alias{Name: "a", Num: 2})}
	}
	d := make()
	for _, name := range []string{"a", "b"} {
		targets.Num(d, name)
		targets.Reg(d, name)
	}
	want := make()
	if !reflect.DeepEqual(d.Nums[:9], want.Nums[:9]) || !reflect.DeepEqual(d.Regs[:9], want.Regs[:9]) {
		t.Error(d)
	}
}
