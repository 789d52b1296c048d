package pipe

import (
	"slices"
	"strconv"
	"testing"

	"delayslot/api"
	"delayslot/seq"
)

// The reference: it keeps all that was done, and asks that of where the next
// instruction stands and of what a register is, as the chapter's words say
// them. What is right, what goes, what is late and what is reckoned are written
// out once more, so that it shares no way with what is tested.

// happened is an instruction that was done: where it stood, whether it went
// elsewhere and to where, and what it wrote into which register (0: none).
type happened struct {
	place    int
	went     bool
	to       int
	register int
	v        int
	late     bool
}

// model is the reference's machine.
type model struct {
	code    []api.Instr
	size    int
	in, out []int
	mem     map[int]int
	past    []happened
}

// asWord is n, less so many times 2^32 that it is a word.
func asWord(n int) int {
	n %= round
	for n > greatest {
		n -= round
	}
	for n < least {
		n += round
	}
	return n
}

// refRight is the reference for what is right: the bounds of A, B, C, Imm.
func refRight(i api.Instr) bool {
	const r = 31
	in := func(v, from, to int) bool { return from <= v && v <= to }
	bounds := func(a, b, c, from, to int) bool {
		return in(i.A, 0, a) && in(i.B, 0, b) && in(i.C, 0, c) && in(i.Imm, from, to)
	}
	switch i.Op {
	case api.Nop:
		return bounds(0, 0, 0, 0, 0)
	case api.Add, api.Sub, api.Mul, api.Div, api.Mod, api.And, api.Or, api.Slt, api.Seq:
		return bounds(r, r, r, 0, 0)
	case api.AddI, api.Lw, api.Sw, api.Beq, api.Bne:
		return bounds(r, r, 0, -32768, 32767)
	case api.Check:
		return bounds(r, r, 0, 0, 32767)
	case api.Lui:
		return bounds(r, 0, 0, -32768, 32767)
	case api.Jmp, api.Jal:
		return bounds(0, 0, 0, 0, 4096)
	case api.Jr:
		return bounds(r, 0, 0, 0, 0)
	case api.Sys:
		return bounds(0, 0, 0, 0, 2)
	}
	return false
}

// refReckon is the reference for what A is made of two words; false, if the
// instruction divides by 0. No step of it leaves 64 bits.
func refReckon(i api.Instr, b int, c int) (int, bool) {
	flag := func(is bool) (int, bool) {
		if is {
			return 1, true
		}
		return 0, true
	}
	if (i.Op == api.Div || i.Op == api.Mod) && c == 0 {
		return 0, false
	}
	switch i.Op {
	case api.Add:
		return asWord(b + c), true
	case api.Sub:
		return asWord(b - c), true
	case api.Mul:
		return asWord(b * c), true
	case api.Div:
		return asWord(b / c), true
	case api.Mod:
		return asWord(b % c), true
	case api.And:
		return b & c, true
	case api.Or:
		return b | c, true
	case api.Slt:
		return flag(b < c)
	case api.Seq:
		return flag(b == c)
	case api.AddI:
		return asWord(b + i.Imm), true
	}
	return asWord(i.Imm * 65536), true
}

// where tells the place of the next instruction: the one that stands two ahead
// of it says it, if that went; else it stands behind the last one.
func (m *model) where() int {
	n := len(m.past)
	switch {
	case n >= 2 && m.past[n-2].went:
		return m.past[n-2].to
	case n >= 1:
		return m.past[n-1].place + 1
	}
	return 0
}

// reg tells what a register is for the next instruction: what the last one
// wrote of those that wrote it, but the one just ahead, if that is late.
func (m *model) reg(r int) int {
	for back := 1; r != 0 && back <= len(m.past); back++ {
		h := m.past[len(m.past)-back]
		if h.register == r && (back > 1 || !h.late) {
			return h.v
		}
	}
	return 0
}

// step does one instruction of the model's, and tells by what it stopped.
func (m *model) step() int {
	here := m.where()
	if here < 0 || here >= len(m.code) {
		return api.Fetch
	}
	i := m.code[here]
	if !refRight(i) {
		return api.Illegal
	}
	h := happened{place: here}
	trap := m.do(i, &h)
	m.past = append(m.past, h)
	return trap
}

// do tells what an instruction does into h.
func (m *model) do(i api.Instr, h *happened) int {
	a, b := m.reg(i.A), m.reg(i.B)
	switch i.Op {
	case api.Nop:
	case api.Lw, api.Sw:
		return m.access(i, a, asWord(b+i.Imm), h)
	case api.Check:
		if a >= 0 && a < i.Imm {
			return api.Runs
		}
		if i.B == 0 {
			return api.Bounds
		}
		return i.B
	case api.Beq:
		h.went, h.to = a == b, h.place+1+i.Imm
	case api.Bne:
		h.went, h.to = a != b, h.place+1+i.Imm
	case api.Jmp:
		h.went, h.to = true, i.Imm
	case api.Jal:
		h.went, h.to = true, i.Imm
		h.register, h.v = 31, h.place+2
	case api.Jr:
		h.went, h.to = true, a
	case api.Sys:
		return m.system(i.Imm, h)
	default:
		v, ok := refReckon(i, b, m.reg(i.C))
		if !ok {
			return api.Zero
		}
		h.register, h.v = i.A, v
	}
	return api.Runs
}

// access loads or stores the model's cell.
func (m *model) access(i api.Instr, a int, at int, h *happened) int {
	if at < 0 || at >= m.size {
		return api.Address
	}
	if i.Op == api.Sw {
		m.mem[at] = a
	} else {
		h.register, h.v, h.late = i.A, m.mem[at], true
	}
	return api.Runs
}

// system does what the model's call of the system does.
func (m *model) system(call int, h *happened) int {
	switch {
	case call == 0:
		return api.Halted
	case call == 1 && len(m.in) == 0:
		return api.NoInput
	case call == 1:
		h.register, h.v, h.late = 4, asWord(m.in[0]), true
		m.in = m.in[1:]
	case len(m.out) == 10000:
		return api.TooMuch
	default:
		m.out = append(m.out, m.reg(4))
	}
	return api.Runs
}

// used tells the model's cells up to the last one that is not 0.
func (m *model) used() []int {
	end := 0
	for at, v := range m.mem {
		if v != 0 {
			end = max(end, at+1)
		}
	}
	cells := make([]int, end)
	for at := range cells {
		cells[at] = m.mem[at]
	}
	return cells
}

// history tells what a run tells with each number of cycles from 0 to most:
// nothing acts in the first three.
func history(code []api.Instr, size int, in []int, most int) []seq.Result {
	m := model{code: code, size: size, in: in, mem: map[int]int{}}
	now := seq.Result{}
	all := []seq.Result{now}
	for cycle := 1; cycle <= most; cycle++ {
		if now.Trap == api.Runs {
			now.Steps = cycle
			if cycle > 3 {
				now.Trap = m.step()
				now.Out, now.Mem = slices.Clone(m.out), m.used()
			}
		}
		all = append(all, now)
	}
	return all
}

// agree holds runs with each number of cycles up to most against the reference.
func agree(t *testing.T, code []api.Instr, size int, in []int, most int) {
	t.Helper()
	for cycles, want := range history(code, size, in, most) {
		if got := Run(code, size, in, cycles); !same(got, want) {
			t.Fatalf("%v, %d cells, input %v, %d cycles: %s, want %s", code, size, in, cycles, brief(got), brief(want))
		}
	}
}

// same: do two results tell the same?
func same(a seq.Result, b seq.Result) bool {
	return a.Trap == b.Trap && a.Steps == b.Steps && slices.Equal(a.Out, b.Out) && slices.Equal(a.Mem, b.Mem)
}

// expect holds a run against what it should tell.
func expect(t *testing.T, name string, got seq.Result, want seq.Result) {
	t.Helper()
	if !same(got, want) {
		t.Errorf("%s: %s, want %s", name, brief(got), brief(want))
	}
}

// brief keeps lists short, so that a fault is read at a glance.
func brief(r seq.Result) string {
	cut := func(l []int) string {
		s := "["
		for i, v := range l {
			if i == 12 {
				return s + " .. of " + strconv.Itoa(len(l)) + "]"
			}
			s += " " + strconv.Itoa(v)
		}
		return s + " ]"
	}
	return "trap " + strconv.Itoa(r.Trap) + " cycles " + strconv.Itoa(r.Steps) + " out " + cut(r.Out) + " mem " + cut(r.Mem)
}

// few has instructions that meet each other in short code: each operation, and
// what is not right.
func few() []api.Instr {
	return list(
		nop, put(4, 2), two(api.AddI, 4, 4, -1), two(api.AddI, 0, 4, 5), lui(4, -32768),
		three(api.Add, 4, 4, 4), three(api.Sub, 1, 1, 4), three(api.Mul, 4, 4, 31), three(api.Div, 4, 4, 1), three(api.Mod, 4, 1, 4),
		three(api.And, 4, 4, 1), three(api.Or, 1, 4, 31), three(api.Slt, 1, 0, 4), three(api.Seq, 4, 1, 0),
		two(api.Lw, 4, 0, 1), two(api.Lw, 1, 4, 0), two(api.Lw, 0, 0, 1), two(api.Sw, 4, 0, 1), two(api.Sw, 4, 1, 0),
		two(api.Check, 4, 0, 2), two(api.Check, 1, 7, 1), two(api.Beq, 4, 1, 1), two(api.Bne, 4, 0, -2),
		to(api.Jmp, 1), to(api.Jal, 2), jr(31), jr(4), sys(0), sys(1), sys(2), wrong,
	)
}

// P8.1, P8.2: all code of up to three instructions of these, with each number
// of cycles, against the reference.
func TestAllShortCode(t *testing.T) {
	all := few()
	for _, a := range all {
		agree(t, list(a), 2, []int{5, -1}, 9)
		for _, b := range all {
			agree(t, list(a, b), 2, []int{5, -1}, 10)
			for _, c := range all {
				agree(t, list(a, b, c), 2, []int{round + 1, -1}, 12)
			}
		}
	}
}

// P8.1: all code of five instructions of those that go or are late, and that
// show it, ahead of more that tells what they left.
func TestAllCodeThatGoesOrIsLate(t *testing.T) {
	all := list(nop, put(4, 6), two(api.AddI, 1, 4, 1), two(api.Lw, 4, 0, 0), two(api.Sw, 4, 0, 0),
		two(api.Beq, 4, 1, 1), two(api.Bne, 4, 0, 2), to(api.Jmp, 4), to(api.Jal, 6), sys(1), sys(2))
	tail := list(sys(2), two(api.AddI, 4, 1, 0), sys(2), two(api.AddI, 4, 31, 0), sys(2), sys(0))
	code := make([]api.Instr, 5, 5+len(tail))
	code = append(code, tail...)
	const enough = 24
	rows(5, len(all), func(row []int) {
		for at, which := range row {
			code[at] = all[which]
		}
		want := history(code, 1, []int{3, 1}, enough)[enough]
		if got := Run(code, 1, []int{3, 1}, enough); !same(got, want) {
			t.Fatalf("%v: %s, want %s", code, brief(got), brief(want))
		}
	})
}

// rows goes on with each row of so many numbers, each below kinds.
func rows(length int, kinds int, each func(row []int)) {
	row := make([]int, length)
	for {
		each(row)
		at := 0
		for at < length && row[at] == kinds-1 {
			row[at] = 0
			at++
		}
		if at == length {
			return
		}
		row[at]++
	}
}

// turns is a row of numbers that jumps about, the same each time.
type turns struct{ now uint64 }

func (r *turns) below(n int) int {
	r.now = r.now*6364136223846793005 + 1442695040888963407
	return int(r.now>>33) % n
}

// anyInstr is an instruction, right nearly always, of registers and places
// that meet each other.
func anyInstr(r *turns, length int, regs []int) api.Instr {
	reg := func() int { return regs[r.below(len(regs))] }
	small := []int{0, 1, 2, 3, -1, -2, 7, 100, -100, 32767, -32768}
	i := api.Instr{Op: r.below(22)}
	switch {
	case api.Add <= i.Op && i.Op <= api.Seq:
		return three(i.Op, reg(), reg(), reg())
	case i.Op == api.AddI || i.Op == api.Sw:
		return two(i.Op, reg(), reg(), small[r.below(len(small))])
	case i.Op == api.Lw:
		return two(i.Op, reg(), 0, r.below(3))
	case i.Op == api.Lui:
		return lui(reg(), small[r.below(len(small))])
	case i.Op == api.Check:
		return two(i.Op, reg(), r.below(32), 32767>>r.below(15))
	case i.Op == api.Beq || i.Op == api.Bne:
		return two(i.Op, reg(), reg(), r.below(2*length)-length)
	case i.Op == api.Jmp || i.Op == api.Jal:
		return to(i.Op, r.below(length+1))
	case i.Op == api.Jr:
		return jr([]int{31, 31, 31, reg()}[r.below(4)])
	case i.Op == api.Sys:
		return sys([]int{0, 1, 1, 2, 2, 2, 2, 2}[r.below(8)])
	}
	return i
}

// anyCode is code of so many of these.
func anyCode(r *turns, length int, regs ...int) []api.Instr {
	code := make([]api.Instr, length)
	for at := range code {
		code[at] = anyInstr(r, length, regs)
	}
	return code
}

// P8.1, P8.2: much code of any instructions, with each number of cycles,
// against the reference.
func TestMuchCode(t *testing.T) {
	r, in := &turns{7}, values()
	for range 20000 {
		code := anyCode(r, 1+r.below(24), 0, 1, 2, 3, 4, 5, 30, 31)
		from := r.below(len(in))
		agree(t, code, r.below(12), in[from:], 40)
	}
}
