package step

import (
	"slices"

	"dovetail/api"
)

// The tasks that registers have in system calls, and how many these are.
const (
	sysno = iota
	ret
	arg0
	arg1
	arg2
	tasks
)

// callWidth is the width of registers that have such a task.
const callWidth = 64

// abi is what a description says of system calls: the numbers of those that there are, and the registers with a task.
type abi struct {
	write, exit uint64
	registers   [tasks]register
}

// register is a register by its place; a file's Zero counts as 0, whatever stands in it.
type register struct {
	file, num int
	zero      bool
}

// abiOf is what a description that is right says of system calls, and whether it lacks nothing.
func abiOf(d api.Desc) (abi, bool) {
	write, writes := numOf(d, "write")
	exit, exits := numOf(d, "exit")
	if !writes || !exits {
		return abi{}, false
	}
	a := abi{write: write, exit: exit}
	for task, name := range [tasks]string{"sysno", "ret", "arg0", "arg1", "arg2"} {
		r, there := registerOf(d, name)
		if !there {
			return abi{}, false
		}
		a.registers[task] = r
	}
	return a, true
}

// numOf is the number of a name, the first if there are several; one below 0 wraps round.
func numOf(d api.Desc, name string) (uint64, bool) {
	n := slices.IndexFunc(d.Nums, func(x api.Named) bool { return x.Name == name })
	if n < 0 {
		return 0, false
	}
	return uint64(d.Nums[n].Num), true
}

// registerOf is the register with a task of that name, the first if there are several, if its file is wide enough for it.
func registerOf(d api.Desc, name string) (register, bool) {
	n := slices.IndexFunc(d.Regs, func(x api.Alias) bool { return x.Name == name })
	if n < 0 {
		return register{}, false
	}
	r := d.Regs[n]
	file := d.Files[r.File]
	if file.Width != callWidth {
		return register{}, false
	}
	return register{r.File, r.Num, r.Num == file.Zero}, true
}

// get is what the register with a task has.
func (m *Machine) get(task int) uint64 {
	r := m.abi.registers[task]
	if r.zero {
		return 0
	}
	return m.cpu.Files[r.file][r.num]
}

// set sets the register with a task; a file's Zero stays.
func (m *Machine) set(task int, v uint64) {
	if r := m.abi.registers[task]; !r.zero {
		m.cpu.Files[r.file][r.num] = v
	}
}
