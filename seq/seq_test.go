package seq

import (
	"math"
	"math/big"
	"slices"
	"testing"

	"delayslot/api"
)

const (
	least    = -1 << 31
	greatest = 1<<31 - 1
	round    = 1 << 32
)

// Short forms, so that code in tests reads as a list of instructions.

func three(op int, a int, b int, c int) api.Instr   { return api.Instr{Op: op, A: a, B: b, C: c} }
func two(op int, a int, b int, imm int) api.Instr   { return api.Instr{Op: op, A: a, B: b, Imm: imm} }
func put(a int, v int) api.Instr                    { return two(api.AddI, a, 0, v) }
func lui(a int, v int) api.Instr                    { return api.Instr{Op: api.Lui, A: a, Imm: v} }
func to(op int, place int) api.Instr                { return api.Instr{Op: op, Imm: place} }
func jr(a int) api.Instr                            { return api.Instr{Op: api.Jr, A: a} }
func sys(call int) api.Instr                        { return api.Instr{Op: api.Sys, Imm: call} }
func tell(a int) []api.Instr                        { return []api.Instr{two(api.AddI, api.Arg, a, 0), sys(api.Write)} }
func join(parts ...[]api.Instr) []api.Instr         { return slices.Concat(parts...) }
func list(i ...api.Instr) []api.Instr               { return i }
func result(trap, steps int, out, mem []int) Result { return Result{trap, steps, out, mem} }

// load: two instructions that make a register any word.
func load(a int, v int) []api.Instr {
	low := int(int16(v))
	return list(lui(a, int(int16((v-low)>>16))), two(api.AddI, a, a, low))
}

// values has ordinary numbers, the ends of words, and numbers that are none.
func values() []int {
	return []int{0, 1, -1, 2, -2, 3, 7, -7, 10, -12, 255, 32767, -32768, 65535, 65536, -65537,
		0x5555aaaa, -0x5555aaab, 1000000007, -1000000007, greatest, greatest - 1, least, least + 1,
		greatest + 1, greatest + 2, least - 1, least - 2, round, round + 1, round - 1, -round, -round + 7, 3*round - 7,
		math.MaxInt, math.MaxInt - 1, math.MinInt, math.MinInt + 1}
}

// same: do two results tell the same?
func same(a Result, b Result) bool {
	return a.Trap == b.Trap && a.Steps == b.Steps && slices.Equal(a.Out, b.Out) && slices.Equal(a.Mem, b.Mem)
}

// expect holds a run against what it should tell.
func expect(t *testing.T, name string, got Result, want Result) {
	t.Helper()
	if !same(got, want) {
		t.Errorf("%s: %s, want %s", name, brief(got), brief(want))
	}
}

// brief keeps lists short, so that a fault is read at a glance.
func brief(r Result) string {
	cut := func(l []int) string {
		s := "["
		for i, v := range l {
			if i == 12 {
				return s + " .. of " + big.NewInt(int64(len(l))).String() + "]"
			}
			s += " " + big.NewInt(int64(v)).String()
		}
		return s + " ]"
	}
	return "trap " + cut([]int{r.Trap}) + " steps " + cut([]int{r.Steps}) + " out " + cut(r.Out) + " mem " + cut(r.Mem)
}

// The reference: numbers without bounds, registers and cells in maps, and a
// table of what is right written out once more, so that it shares no way with
// what is tested.

// wrapped is n, less so many times 2^32 that it is a word.
func wrapped(n *big.Int) int {
	size := big.NewInt(round)
	left := new(big.Int).Mod(n, size)
	if left.Cmp(big.NewInt(greatest)) > 0 {
		left.Sub(left, size)
	}
	return int(left.Int64())
}

// asWord is an int, as a word, by way of numbers without bounds.
func asWord(n int) int { return wrapped(big.NewInt(int64(n))) }

// refReckon is the reference for what A is made of, by the table.
func refReckon(i api.Instr, b int, c int) (int, int) {
	x, y, imm := big.NewInt(int64(asWord(b))), big.NewInt(int64(asWord(c))), big.NewInt(int64(i.Imm))
	z := new(big.Int)
	flag := func(is bool) *big.Int {
		if is {
			return z.SetInt64(1)
		}
		return z.SetInt64(0)
	}
	if (i.Op == api.Div || i.Op == api.Mod) && y.Sign() == 0 {
		return 0, api.Zero
	}
	switch i.Op {
	case api.Add:
		z.Add(x, y)
	case api.Sub:
		z.Sub(x, y)
	case api.Mul:
		z.Mul(x, y)
	case api.Div:
		z.Quo(x, y)
	case api.Mod:
		z.Rem(x, y)
	case api.And:
		z.And(x, y)
	case api.Or:
		z.Or(x, y)
	case api.Slt:
		z = flag(x.Cmp(y) < 0)
	case api.Seq:
		z = flag(x.Cmp(y) == 0)
	case api.AddI:
		z.Add(x, imm)
	case api.Lui:
		z.Mul(imm, big.NewInt(65536))
	}
	return wrapped(z), api.Runs
}

// refRight is the reference for what is right: the bounds of A, B, C, Imm.
func refRight(i api.Instr) bool {
	const r = 31
	table := map[int][5]int{
		api.Nop: {}, api.Add: {r, r, r}, api.Sub: {r, r, r}, api.Mul: {r, r, r}, api.Div: {r, r, r}, api.Mod: {r, r, r},
		api.And: {r, r, r}, api.Or: {r, r, r}, api.Slt: {r, r, r}, api.Seq: {r, r, r},
		api.AddI: {r, r, 0, -32768, 32767}, api.Lui: {r, 0, 0, -32768, 32767}, api.Lw: {r, r, 0, -32768, 32767},
		api.Sw: {r, r, 0, -32768, 32767}, api.Check: {r, r, 0, 0, 32767}, api.Beq: {r, r, 0, -32768, 32767},
		api.Bne: {r, r, 0, -32768, 32767}, api.Jmp: {0, 0, 0, 0, 4096}, api.Jal: {0, 0, 0, 0, 4096}, api.Jr: {r},
		api.Sys: {0, 0, 0, 0, 2},
	}
	b, ok := table[i.Op]
	in := func(v, from, to int) bool { return from <= v && v <= to }
	return ok && in(i.A, 0, b[0]) && in(i.B, 0, b[1]) && in(i.C, 0, b[2]) && in(i.Imm, b[3], b[4])
}

// model is the reference's machine: it has all of it, by values and maps.
type model struct {
	code      []api.Instr
	size      int
	in, out   []int
	regs, mem map[int]int
	place     int
}

// put writes a register of the model's, but 0.
func (m *model) put(r int, v int) {
	if r > 0 {
		m.regs[r] = v
	}
}

// step does one step of the model's, and tells by what it stopped.
func (m *model) step() int {
	if m.place < 0 || m.place >= len(m.code) {
		return api.Fetch
	}
	i, here := m.code[m.place], m.place
	if !refRight(i) {
		return api.Illegal
	}
	a, b := m.regs[i.A], m.regs[i.B]
	at := wrapped(big.NewInt(int64(b) + int64(i.Imm)))
	m.place = here + 1
	switch i.Op {
	case api.Nop:
	case api.Lw, api.Sw:
		if at < 0 || at >= m.size {
			return api.Address
		}
		if i.Op == api.Lw {
			m.put(i.A, m.mem[at])
		} else {
			m.mem[at] = a
		}
	case api.Check:
		if (a < 0 || a > i.Imm-1) && i.B == 0 {
			return api.Bounds
		}
		if a < 0 || a > i.Imm-1 {
			return i.B
		}
	case api.Beq, api.Bne:
		if (a == b) == (i.Op == api.Beq) {
			m.place = here + 1 + i.Imm
		}
	case api.Jmp:
		m.place = i.Imm
	case api.Jal:
		m.place = i.Imm
		m.put(31, here+1)
	case api.Jr:
		m.place = a
	case api.Sys:
		return m.system(i.Imm)
	default:
		v, trap := refReckon(i, b, m.regs[i.C])
		if trap != api.Runs {
			return trap
		}
		m.put(i.A, v)
	}
	return api.Runs
}

// system does what the model's call of the system does.
func (m *model) system(call int) int {
	switch {
	case call == 0:
		return api.Halted
	case call == 1 && len(m.in) == 0:
		return api.NoInput
	case call == 1:
		m.put(4, asWord(m.in[0]))
		m.in = m.in[1:]
	case len(m.out) == 10000:
		return api.TooMuch
	default:
		m.out = append(m.out, m.regs[4])
	}
	return api.Runs
}

// used tells the model's cells up to the last one that is not 0.
func (m *model) used() []int {
	end := 0
	for at, v := range m.mem {
		if v != 0 {
			end = max(end, at+1)
		}
	}
	cells := make([]int, end)
	for at := range cells {
		cells[at] = m.mem[at]
	}
	return cells
}

// history tells what a run tells with each fuel from 0 to most.
func history(code []api.Instr, size int, in []int, most int) []Result {
	m := model{code: code, size: size, in: in, regs: map[int]int{}, mem: map[int]int{}}
	now := Result{}
	all := []Result{now}
	for range most {
		if now.Trap == api.Runs {
			now.Trap = m.step()
			now.Steps++
			now.Out, now.Mem = slices.Clone(m.out), m.used()
		}
		all = append(all, now)
	}
	return all
}

// agree holds runs with each fuel up to most against the reference.
func agree(t *testing.T, code []api.Instr, size int, in []int, most int) {
	t.Helper()
	for fuel, want := range history(code, size, in, most) {
		if got := Run(code, size, in, fuel); !same(got, want) {
			t.Fatalf("%v, %d cells, input %v, fuel %d: %s, want %s", code, size, in, fuel, brief(got), brief(want))
		}
	}
}

// P7.1: the chapter's example.
func TestExample(t *testing.T) {
	code := list(put(4, 7), sys(2), sys(0))
	expect(t, "example", Run(code, 0, nil, 99), result(api.Halted, 3, []int{7}, nil))
}

// P7.1: each operation that reckons, by hand, at ordinary numbers and at edges.
func TestReckonByHand(t *testing.T) {
	for _, c := range []struct {
		i             api.Instr
		b, c, v, trap int
	}{
		{three(api.Add, 1, 2, 3), 5, 6, 11, 0},
		{three(api.Add, 1, 2, 3), greatest, 1, least, 0},
		{three(api.Sub, 1, 2, 3), 5, 6, -1, 0},
		{three(api.Sub, 1, 2, 3), least, 1, greatest, 0},
		{three(api.Mul, 1, 2, 3), -5, 6, -30, 0},
		{three(api.Mul, 1, 2, 3), 1 << 16, 1 << 16, 0, 0},
		{three(api.Mul, 1, 2, 3), 1 << 16, 1 << 15, least, 0},
		{three(api.Div, 1, 2, 3), -7, 2, -3, 0},
		{three(api.Div, 1, 2, 3), 7, -2, -3, 0},
		{three(api.Div, 1, 2, 3), least, -1, least, 0},
		{three(api.Div, 1, 2, 3), 9, 0, 0, api.Zero},
		{three(api.Div, 1, 2, 3), 9, round, 0, api.Zero},
		{three(api.Div, 1, 2, 3), round + 9, round + 2, 4, 0},
		{three(api.Div, 1, 2, 3), 0, 4, 0, 0},
		{three(api.Mod, 1, 2, 3), -7, 2, -1, 0},
		{three(api.Mod, 1, 2, 3), 7, -2, 1, 0},
		{three(api.Mod, 1, 2, 3), least, -1, 0, 0},
		{three(api.Mod, 1, 2, 3), 9, 0, 0, api.Zero},
		{three(api.Mod, 1, 2, 3), 9, -round, 0, api.Zero},
		{three(api.And, 1, 2, 3), 12, 10, 8, 0},
		{three(api.And, 1, 2, 3), -1, 10, 10, 0},
		{three(api.And, 1, 2, 3), least, -1, least, 0},
		{three(api.And, 1, 2, 3), round + 5, round + 4, 4, 0},
		{three(api.Or, 1, 2, 3), 12, 10, 14, 0},
		{three(api.Or, 1, 2, 3), least, greatest, -1, 0},
		{three(api.Or, 1, 2, 3), round + 1, 4, 5, 0},
		{three(api.Slt, 1, 2, 3), 3, 4, 1, 0},
		{three(api.Slt, 1, 2, 3), 4, 4, 0, 0},
		{three(api.Slt, 1, 2, 3), 4, 3, 0, 0},
		{three(api.Slt, 1, 2, 3), least, greatest, 1, 0},
		{three(api.Slt, 1, 2, 3), round, 1, 1, 0},
		{three(api.Slt, 1, 2, 3), greatest + 1, 0, 1, 0},
		{three(api.Seq, 1, 2, 3), 4, 4, 1, 0},
		{three(api.Seq, 1, 2, 3), 4, -4, 0, 0},
		{three(api.Seq, 1, 2, 3), round + 4, 4, 1, 0},
		{two(api.AddI, 1, 2, -5), 3, 99, -2, 0},
		{two(api.AddI, 1, 2, 32767), greatest, 99, least + 32766, 0},
		{two(api.AddI, 1, 2, -32768), least, 99, greatest - 32767, 0},
		{lui(1, 1), 99, 98, 65536, 0},
		{lui(1, -1), 99, 98, -65536, 0},
		{lui(1, 32767), 0, 0, greatest - 65535, 0},
		{lui(1, -32768), 0, 0, least, 0},
		{three(api.Add, 0, 0, 0), 5, 6, 11, 0},
	} {
		if v, trap, ok := Reckon(c.i, c.b, c.c); v != c.v || trap != c.trap || !ok {
			t.Errorf("Reckon(%v, %d, %d) = %d, %d, %v, want %d, %d, true", c.i, c.b, c.c, v, trap, ok, c.v, c.trap)
		}
	}
}

// P7.1: each operation that reckons at all pairs of numbers, words or not,
// against numbers without bounds.
func TestReckonOfAllPairs(t *testing.T) {
	var all []api.Instr
	for op := api.Add; op <= api.Seq; op++ {
		all = append(all, three(op, 1, 2, 3), three(op, 0, 0, 31), three(op, 31, 31, 0))
	}
	for _, imm := range []int{0, 1, -1, 77, 32767, -32768} {
		all = append(all, two(api.AddI, 5, 6, imm), two(api.AddI, 0, 0, imm), lui(5, imm), lui(0, imm))
	}
	for _, i := range all {
		for _, b := range values() {
			for _, c := range values() {
				want, stops := refReckon(i, b, c)
				if v, trap, ok := Reckon(i, b, c); v != want || trap != stops || !ok {
					t.Fatalf("Reckon(%v, %d, %d) = %d, %d, %v, want %d, %d, true", i, b, c, v, trap, ok, want, stops)
				}
			}
		}
	}
}

// wrongs has instructions that are not right, of each operation and of none.
func wrongs() []api.Instr {
	var all []api.Instr
	for op := -2; op <= 66; op++ {
		for _, v := range []int{-1, 1, 31, 32, 4097, 32767, 32768, -32768, -32769, round, math.MaxInt, math.MinInt} {
			all = append(all, api.Instr{Op: op, A: v}, api.Instr{Op: op, B: v}, api.Instr{Op: op, C: v}, api.Instr{Op: op, Imm: v})
		}
		all = append(all, api.Instr{Op: op})
	}
	for _, op := range []int{math.MinInt, -round + 1, round + 1, round, math.MaxInt} {
		all = append(all, api.Instr{Op: op})
	}
	return slices.DeleteFunc(all, refRight)
}

// P7.1, R2: Reckon of what is not right is nothing, even where it would stop.
func TestReckonOfWrongInstructions(t *testing.T) {
	for _, i := range wrongs() {
		for _, c := range []int{0, 3} {
			if v, trap, ok := Reckon(i, 7, c); v != 0 || trap != api.Runs || ok {
				t.Errorf("Reckon(%v, 7, %d) = %d, %d, %v, want 0, 0, false", i, c, v, trap, ok)
			}
		}
	}
}

// P7.1, R2: Reckon of right instructions that are not from Add to Lui.
func TestReckonOfOtherOperations(t *testing.T) {
	for _, i := range []api.Instr{{}, two(api.Lw, 1, 2, 3), two(api.Sw, 1, 2, 3), two(api.Check, 1, 0, 0), two(api.Check, 1, 4, 9),
		two(api.Beq, 1, 2, 3), two(api.Bne, 1, 2, 3), to(api.Jmp, 4), to(api.Jal, 4), jr(3), sys(0), sys(1), sys(2)} {
		for _, b := range []int{0, 5, -1} {
			if v, trap, ok := Reckon(i, b, 0); v != 0 || trap != api.Runs || ok {
				t.Errorf("Reckon(%v, %d, 0) = %d, %d, %v, want 0, 0, false", i, b, v, trap, ok)
			}
		}
	}
}

// P7.1: each operation that reckons, as the machine does it, of any words, and
// of registers that are the same ones.
func TestRunReckons(t *testing.T) {
	for op := api.Add; op <= api.Seq; op++ {
		for _, b := range values() {
			for _, c := range values() {
				code := join(load(1, asWord(b)), load(2, asWord(c)), list(three(op, 3, 1, 2)), tell(3), list(sys(0)))
				v, trap := refReckon(three(op, 3, 1, 2), b, c)
				want := result(api.Halted, 8, []int{v}, nil)
				if trap != api.Runs {
					want = result(trap, 5, nil, nil)
				}
				expect(t, "run", Run(code, 0, nil, 99), want)
			}
		}
	}
	code := join(list(put(5, 9), three(api.Add, 5, 5, 5), three(api.Mul, 5, 5, 5)), tell(5), list(two(api.AddI, 5, 5, -4)), tell(5), list(sys(0)))
	expect(t, "the same register", Run(code, 0, nil, 99), result(api.Halted, 9, []int{324, 320}, nil))
}

// P7.1: a Nop does nothing but go on.
func TestNop(t *testing.T) {
	code := join(list(api.Instr{}, api.Instr{}, put(4, 3), api.Instr{}), list(sys(2), api.Instr{}, sys(0)))
	expect(t, "nops", Run(code, 2, nil, 99), result(api.Halted, 7, []int{3}, nil))
}

// P7.1: register 0 stays 0, whatever writes there.
func TestRegisterNought(t *testing.T) {
	head := list(put(1, 6), put(2, 3), two(api.Sw, 1, 0, 0))
	writes := list(put(0, 5), lui(0, 7), two(api.Lw, 0, 0, 0))
	for op := api.Add; op <= api.Seq; op++ {
		writes = append(writes, three(op, 0, 1, 2))
	}
	for _, w := range writes {
		code := join(head, list(w), tell(0), list(two(api.Beq, 0, 0, 1), sys(0), two(api.Sw, 0, 0, 0), sys(0)))
		expect(t, "register 0", Run(code, 1, nil, 99), result(api.Halted, 9, []int{0}, nil))
	}
}

// P7.1: an instruction that stops does nothing else: neither a register nor a
// cell is written, but the step counts.
func TestStopsDoNothingElse(t *testing.T) {
	head := list(put(1, 5), two(api.Sw, 1, 0, 2))
	for _, c := range []struct {
		i    api.Instr
		trap int
	}{
		{three(api.Div, 1, 1, 0), api.Zero}, {three(api.Mod, 1, 1, 0), api.Zero}, {three(api.Div, 0, 0, 0), api.Zero},
		{two(api.Lw, 1, 0, 3), api.Address}, {two(api.Lw, 0, 0, -1), api.Address}, {two(api.Sw, 1, 0, 3), api.Address}, {two(api.Sw, 0, 0, -1), api.Address},
		{two(api.Check, 1, 0, 5), api.Bounds}, {sys(0), api.Halted}, {sys(1), api.NoInput}, {api.Instr{Op: 21}, api.Illegal},
	} {
		code := join(head, list(c.i), tell(1), list(sys(0)))
		for fuel := 3; fuel < 9; fuel++ {
			expect(t, "stops", Run(code, 3, nil, fuel), result(c.trap, 3, nil, []int{0, 0, 5}))
		}
	}
}

// P7.1: loads and stores, at the ends of the memory and beyond.
func TestMemory(t *testing.T) {
	for _, size := range []int{0, 1, 2, 5, 100, api.MaxMem - 1, api.MaxMem} {
		for _, at := range []int{0, 1, 4, size - 1, size, size + 1, -1, -size, api.MaxMem, 32767, -32768} {
			want := result(api.Address, 2, nil, nil)
			if at >= 0 && at < size {
				want = result(api.Fetch, 5, []int{77}, append(make([]int, at), 77))
			}
			for _, base := range []int{0, 9, 32767, -32768, greatest, least, 1 << 20} {
				imm := at - base
				if imm < -32768 || imm > 32767 {
					continue
				}
				code := join(load(2, base), list(put(1, 77), two(api.Sw, 1, 2, imm), two(api.Lw, 4, 2, imm), sys(2)))
				more := want
				more.Steps += 2
				expect(t, "memory", Run(code, size, nil, 99), more)
			}
			code := list(two(api.Lw, 4, 0, at), sys(2))
			if at < -32768 || at > 32767 {
				continue
			}
			want = result(api.Address, 1, nil, nil)
			if at >= 0 && at < size {
				want = result(api.Fetch, 3, []int{0}, nil)
			}
			expect(t, "load of a new cell", Run(code, size, nil, 99), want)
		}
	}
}

// P7.1: b + Imm is brought round: from above the greatest word it is the least
// one, and no cell; two ends meet nowhere.
func TestAddressIsBroughtRound(t *testing.T) {
	for _, c := range []struct{ base, imm int }{{greatest, 1}, {greatest, 32767}, {least, -1}, {least, -32768}, {-1, 0}, {greatest, 0}, {least, 0}} {
		for _, op := range []int{api.Lw, api.Sw} {
			code := join(load(2, c.base), list(two(op, 3, 2, c.imm)))
			expect(t, "far", Run(code, api.MaxMem, nil, 99), result(api.Address, 3, nil, nil))
		}
	}
	code := join(load(2, -32768), list(put(1, 3), two(api.Sw, 1, 2, 32767), sys(0)))
	expect(t, "one below", Run(code, 9, nil, 99), result(api.Address, 4, nil, nil))
	code = join(load(2, -7), list(put(1, 3), two(api.Sw, 1, 2, 9), sys(0)))
	expect(t, "a base below 0", Run(code, 9, nil, 99), result(api.Halted, 5, nil, []int{0, 0, 3}))
}

// P7.1: Mem is the memory's Used: noughts at its end do not show, and a nought
// that is stored takes its cell out again.
func TestMemIsUsed(t *testing.T) {
	code := list(put(1, 8), two(api.Sw, 1, 0, 1), two(api.Sw, 1, 0, 3), two(api.Sw, 0, 0, 3), two(api.Sw, 0, 0, 1), sys(0))
	for fuel, want := range [][]int{nil, nil, {0, 8}, {0, 8, 0, 8}, {0, 8}, nil, nil} {
		if got := Run(code, 5, nil, fuel).Mem; !slices.Equal(got, want) {
			t.Errorf("fuel %d: Mem %v, want %v", fuel, got, want)
		}
	}
}

// P7.1: a Check at 0, at Imm - 1, at Imm and below 0, with each B.
func TestCheck(t *testing.T) {
	for b := range api.Regs {
		trap := b
		if b == 0 {
			trap = api.Bounds
		}
		for _, imm := range []int{0, 1, 2, 5, 32766, 32767} {
			for _, v := range []int{0, 1, imm - 1, imm, imm + 1, -1, -imm, greatest, least} {
				want := result(trap, 5, nil, nil)
				if v >= 0 && v < imm {
					want = result(api.Halted, 6, nil, nil)
				}
				// B's register is 40, which is no B: it would show, were it asked
				code := join(load(max(b, 1), 40), load(3, v), list(two(api.Check, 3, b, imm), sys(0)))
				expect(t, "check", Run(code, 0, nil, 99), want)
			}
		}
	}
}

// P7.1: branches either way, taken and not.
func TestBranches(t *testing.T) {
	for _, c := range []struct {
		op, a, b int
		taken    bool
	}{
		{api.Beq, 5, 5, true}, {api.Beq, 5, 6, false}, {api.Beq, -5, 5, false}, {api.Beq, least, least, true},
		{api.Bne, 5, 5, false}, {api.Bne, 5, 6, true}, {api.Bne, -5, 5, true}, {api.Bne, least, greatest, true},
	} {
		// ahead by one, over the halt
		code := join(load(1, c.a), load(2, c.b), list(two(c.op, 1, 2, 1), sys(0), put(4, 9), sys(2), sys(0)))
		want := result(api.Halted, 6, nil, nil)
		if c.taken {
			want = result(api.Halted, 8, []int{9}, nil)
		}
		expect(t, "ahead", Run(code, 0, nil, 99), want)
		// back: to the place 0, where it goes on to the one that tells
		code = join(list(two(api.Beq, 3, 0, 2), sys(2), sys(0)), list(put(3, 1)), load(1, c.a), load(2, c.b), list(two(c.op, 1, 2, -9), sys(0)))
		want = result(api.Halted, 8, nil, nil)
		if c.taken {
			want = result(api.Halted, 10, []int{0}, nil)
		}
		expect(t, "back", Run(code, 0, nil, 99), want)
	}
	expect(t, "to itself", Run(list(two(api.Beq, 0, 0, -1)), 0, nil, 50), result(api.Runs, 50, nil, nil))
	expect(t, "by none", Run(list(two(api.Beq, 0, 0, 0), sys(0)), 0, nil, 50), result(api.Halted, 2, nil, nil))
}

// P7.1: places below 0 and behind the code stop by Fetch, however the machine
// comes there, by a step that counts.
func TestPlacesWithoutInstruction(t *testing.T) {
	for name, code := range map[string][]api.Instr{
		"branch below 0":  list(api.Instr{}, two(api.Beq, 0, 0, -3)),
		"far below 0":     list(api.Instr{}, two(api.Beq, 0, 0, -32768)),
		"branch behind":   list(api.Instr{}, two(api.Beq, 0, 0, 0)),
		"one behind":      list(api.Instr{}, two(api.Beq, 0, 0, 1)),
		"far behind":      list(api.Instr{}, two(api.Beq, 0, 0, 32767)),
		"jump behind":     list(api.Instr{}, to(api.Jmp, 2)),
		"jump far behind": list(api.Instr{}, to(api.Jmp, api.MaxCode)),
		"call behind":     list(api.Instr{}, to(api.Jal, 3)),
		"back to -1":      list(put(1, -1), jr(1)),
		"to the least":    list(lui(1, -32768), jr(1)),
		"to a great one":  list(lui(1, 32767), jr(1)),
		"to the end":      list(put(1, 2), jr(1)),
		"over the end":    list(api.Instr{}, api.Instr{}),
	} {
		expect(t, name, Run(code, 0, nil, 99), result(api.Fetch, 3, nil, nil))
		expect(t, name+", just enough", Run(code, 0, nil, 3), result(api.Fetch, 3, nil, nil))
		expect(t, name+", not yet", Run(code, 0, nil, 2), result(api.Runs, 2, nil, nil))
	}
}

// P7.1: code of no instruction, nil or empty, stops by Fetch at once, unless
// there is no fuel.
func TestNoCode(t *testing.T) {
	for _, code := range [][]api.Instr{nil, {}} {
		expect(t, "no code", Run(code, 3, []int{1}, 5), result(api.Fetch, 1, nil, nil))
		expect(t, "no code, fuel of one", Run(code, 3, []int{1}, 1), result(api.Fetch, 1, nil, nil))
		expect(t, "no code, no fuel", Run(code, 3, []int{1}, 0), Result{})
	}
}

// P7.1: code of MaxCode is run, to its last place; one more is nothing.
func TestMostCode(t *testing.T) {
	code := make([]api.Instr, api.MaxCode)
	code[api.MaxCode-1] = sys(2)
	expect(t, "MaxCode", Run(code, 1, nil, 9999), result(api.Fetch, api.MaxCode+1, []int{0}, nil))
	code[0] = to(api.Jmp, api.MaxCode-1)
	expect(t, "to the last", Run(code, 1, nil, 9999), result(api.Fetch, 3, []int{0}, nil))
	for _, more := range []int{1, 2, 5000} {
		long := append(slices.Clone(code), make([]api.Instr, more)...)
		expect(t, "more than MaxCode", Run(long, 1, nil, 9999), Result{})
		expect(t, "more than MaxCode, no fuel", Run(long, 1, nil, 0), Result{})
	}
}

// P7.1: a memory of no cell and of MaxMem; below and above is nothing.
func TestSizes(t *testing.T) {
	code := list(put(1, 7), two(api.Sw, 1, 0, api.MaxMem-1), put(4, 2), sys(2), sys(0))
	expect(t, "no cell", Run(code, 0, nil, 99), result(api.Address, 2, nil, nil))
	expect(t, "one less", Run(code, api.MaxMem-1, nil, 99), result(api.Address, 2, nil, nil))
	expect(t, "MaxMem", Run(code, api.MaxMem, nil, 99), result(api.Halted, 5, []int{2}, append(make([]int, api.MaxMem-1), 7)))
	for _, size := range []int{-1, -2, -api.MaxMem, least, math.MinInt, api.MaxMem + 1, 2 * api.MaxMem, greatest, round, round + 5, -round + 5, math.MaxInt} {
		expect(t, "a wrong size", Run(code, size, nil, 99), Result{})
		expect(t, "a wrong size, no code", Run(nil, size, nil, 99), Result{})
	}
}

// P7.1: fuel: none, just enough, more than is needed; below 0 is none.
func TestFuel(t *testing.T) {
	code := list(put(4, 7), sys(2), two(api.Sw, 4, 0, 0), sys(0))
	end := result(api.Halted, 4, []int{7}, []int{7})
	for fuel, want := range []Result{{}, result(api.Runs, 1, nil, nil), result(api.Runs, 2, []int{7}, nil), result(api.Runs, 3, []int{7}, []int{7}), end, end, end} {
		expect(t, "fuel", Run(code, 1, nil, fuel), want)
	}
	for _, fuel := range []int{99, greatest, round, math.MaxInt} {
		expect(t, "much fuel", Run(code, 1, nil, fuel), end)
	}
	for _, fuel := range []int{-1, -2, least, -round + 4, math.MinInt} {
		expect(t, "fuel below 0", Run(code, 1, nil, fuel), Result{})
	}
}

// P7.1: Jal's register 31 is its place and 1; Jr comes back there.
func TestCalls(t *testing.T) {
	code := list(
		to(api.Jal, 5), // 0
		sys(2),
		to(api.Jal, 5),
		sys(2),
		sys(0),
		two(api.AddI, 4, 31, 100), // 5: the place behind the call, and 100
		jr(31),
	)
	expect(t, "calls", Run(code, 0, nil, 99), result(api.Halted, 9, []int{101, 103}, nil))
	last := make([]api.Instr, api.MaxCode)
	last[0], last[1], last[2], last[3] = to(api.Jmp, api.MaxCode-1), two(api.AddI, 4, 31, 0), sys(2), sys(0)
	last[api.MaxCode-1] = to(api.Jal, 1)
	expect(t, "the last place", Run(last, 0, nil, 99), result(api.Halted, 5, []int{api.MaxCode}, nil))
	expect(t, "to itself", Run(list(to(api.Jal, 0)), 0, nil, 9), result(api.Runs, 9, nil, nil))
}

// P7.1: a Jmp leaves register 31 as it was, and so does a Jr; Jr's register
// may be 0.
func TestJumps(t *testing.T) {
	code := join(list(put(31, 44), put(1, 4), jr(1), sys(0), to(api.Jmp, 6), sys(0)), tell(31), list(sys(0)))
	expect(t, "jumps", Run(code, 0, nil, 99), result(api.Halted, 7, []int{44}, nil))
	expect(t, "to 0", Run(list(sys(2), jr(0)), 0, nil, 5), result(api.Runs, 5, []int{0, 0, 0}, nil))
}

// P7.1: the input is read in order, brought round, into register 4 alone, to
// its last number; one more stops.
func TestInput(t *testing.T) {
	in := values()
	loop := list(sys(1), sys(2), to(api.Jmp, 0))
	var want []int
	for _, v := range in {
		want = append(want, asWord(v))
	}
	for n := range in {
		expect(t, "input", Run(loop, 0, in[:n], 999), result(api.NoInput, 3*n+1, want[:n], nil))
	}
	code := join(list(put(3, 30), put(5, 50), sys(1)), tell(3), tell(5), tell(4), list(sys(0)))
	expect(t, "register 4", Run(code, 0, []int{9}, 99), result(api.Halted, 10, []int{30, 50, 50}, nil))
	one := list(sys(1), sys(2), sys(0))
	for _, v := range in {
		expect(t, "one number", Run(one, 0, []int{v, 1, 2}, 99), result(api.Halted, 3, []int{asWord(v)}, nil))
	}
	expect(t, "no input", Run(one, 0, nil, 99), result(api.NoInput, 1, nil, nil))
	expect(t, "input that nobody reads", Run(list(sys(0)), 0, in, 99), result(api.Halted, 1, nil, nil))
}

// P7.1: MaxOut numbers are told; one more stops, and is not.
func TestMostOutput(t *testing.T) {
	want := make([]int, api.MaxOut)
	for i := range want {
		want[i] = i + 1
	}
	loop := list(two(api.AddI, 4, 4, 1), sys(2), to(api.Jmp, 0))
	steps := 3*api.MaxOut + 2
	for _, fuel := range []int{steps, steps + 1, 99999} {
		expect(t, "too much", Run(loop, 0, nil, fuel), result(api.TooMuch, steps, want, nil))
	}
	for less := range 3 {
		expect(t, "just MaxOut", Run(loop, 0, nil, steps-1-less), result(api.Runs, steps-1-less, want, nil))
	}
	expect(t, "one less", Run(loop, 0, nil, steps-4), result(api.Runs, steps-4, want[:api.MaxOut-1], nil))
	halts := list(two(api.AddI, 1, 1, 1), two(api.AddI, 4, 1, 0), sys(2), put(2, api.MaxOut), two(api.Bne, 1, 2, -5), sys(0))
	expect(t, "halts", Run(halts, 0, nil, 99999), result(api.Halted, 5*api.MaxOut+1, want, nil))
	if api.MaxOut != 10000 || api.MaxCode != 4096 || api.MaxMem != 32000 {
		t.Error("the limits are others")
	}
}

// P7.1: instructions that are not right stop by Illegal, where they stand, and
// not ahead: code that goes by them runs.
func TestWrongInstructions(t *testing.T) {
	for _, i := range wrongs() {
		expect(t, "wrong", Run(list(i), 9, []int{1}, 99), result(api.Illegal, 1, nil, nil))
		expect(t, "behind", Run(list(put(4, 1), sys(2), i, sys(2)), 9, nil, 99), result(api.Illegal, 3, []int{1}, nil))
		expect(t, "not reached", Run(list(to(api.Jmp, 2), i, sys(0)), 9, nil, 99), result(api.Halted, 2, nil, nil))
	}
}

// sorts is code that reads ten numbers, sorts them and tells them.
func sorts() []api.Instr {
	return list(
		put(1, 10), put(2, 0),
		sys(1), two(api.Sw, 4, 2, 0), two(api.AddI, 2, 2, 1), two(api.Bne, 2, 1, -4), // 2: read
		put(3, 0),                                                            // 6: was one turned?
		put(2, 1),                                                            // 7: from the second one on
		two(api.Lw, 5, 2, -1), two(api.Lw, 6, 2, 0), three(api.Slt, 7, 6, 5), // 8
		two(api.Beq, 7, 0, 3), two(api.Sw, 6, 2, -1), two(api.Sw, 5, 2, 0), put(3, 1),
		two(api.AddI, 2, 2, 1), two(api.Bne, 2, 1, -9), two(api.Bne, 3, 0, -12),
		put(2, 0), two(api.Lw, 4, 2, 0), sys(2), two(api.AddI, 2, 2, 1), two(api.Bne, 2, 1, -4), sys(0),
	)
}

// P7.1: code that loops, branches, loads and stores, reads and tells.
func TestSorts(t *testing.T) {
	in := []int{5, -3, greatest, 0, least, 7, 7, 12, -round - 8, 1}
	want := []int{least, -8, -3, 0, 1, 5, 7, 7, 12, greatest}
	r := Run(sorts(), 10, in, 9999)
	if r.Trap != api.Halted || !slices.Equal(r.Out, want) || !slices.Equal(r.Mem, want) {
		t.Errorf("sorted: %s, want %v", brief(r), want)
	}
	if r := Run(sorts(), 9, in, 9999); r.Trap != api.Address || r.Steps != 2+9*4+2 {
		t.Errorf("of too few cells: %s", brief(r))
	}
	if r := Run(sorts(), 10, in[:9], 9999); r.Trap != api.NoInput || r.Steps != 2+9*4+1 {
		t.Errorf("of too few numbers: %s", brief(r))
	}
	agree(t, sorts(), 10, in, 900)
}

// P7.1: a factorial that calls itself, with a stack in memory.
func TestCallsItself(t *testing.T) {
	code := list(
		put(29, 100), sys(1), to(api.Jal, 5), sys(2), sys(0),
		two(api.Bne, 4, 0, 2), put(4, 1), jr(31), // 5: of 0 it is 1
		two(api.AddI, 29, 29, -2), two(api.Sw, 31, 29, 0), two(api.Sw, 4, 29, 1),
		two(api.AddI, 4, 4, -1), to(api.Jal, 5),
		two(api.Lw, 31, 29, 0), two(api.Lw, 5, 29, 1), two(api.AddI, 29, 29, 2),
		three(api.Mul, 4, 4, 5), jr(31),
	)
	for n, want := range []int{1, 1, 2, 6, 24, 120, 720, 5040, 40320, 362880, 3628800, 39916800, 479001600, 1932053504} {
		r := Run(code, 100, []int{n}, 9999)
		if r.Trap != api.Halted || !slices.Equal(r.Out, []int{want}) {
			t.Errorf("of %d: %s, want %d", n, brief(r), want)
		}
	}
	if r := Run(code, 100, []int{-1}, 9999); r.Trap != api.Address || r.Out != nil {
		t.Errorf("without end: %s", brief(r))
	}
	agree(t, code, 100, []int{4}, 80)
}

// few has instructions that meet each other in short code: each operation, and
// what is not right.
func few() []api.Instr {
	return list(
		api.Instr{}, put(4, 2), two(api.AddI, 4, 4, -1), two(api.AddI, 0, 4, 5), lui(4, -32768),
		three(api.Add, 4, 4, 4), three(api.Sub, 1, 1, 4), three(api.Mul, 4, 4, 31), three(api.Div, 4, 4, 1), three(api.Mod, 4, 1, 4),
		three(api.Slt, 1, 0, 4), three(api.Seq, 4, 1, 0),
		two(api.Lw, 4, 0, 1), two(api.Lw, 1, 4, 0), two(api.Sw, 4, 0, 1), two(api.Sw, 4, 1, 0),
		two(api.Check, 4, 0, 2), two(api.Check, 1, 7, 1), two(api.Beq, 4, 1, 1), two(api.Bne, 4, 0, -2),
		to(api.Jmp, 1), to(api.Jal, 2), jr(31), jr(4), sys(0), sys(1), sys(2), api.Instr{Op: 22},
	)
}

// P7.1, P7.2: all code of up to three instructions of these, with each fuel,
// against the reference.
func TestAllShortCode(t *testing.T) {
	all := few()
	for _, a := range all {
		agree(t, list(a), 2, []int{5, -1}, 6)
		for _, b := range all {
			agree(t, list(a, b), 2, []int{5, -1}, 6)
			for _, c := range all {
				agree(t, list(a, b, c), 2, []int{round + 1, -1}, 7)
			}
		}
	}
}

// turns is a row of numbers that jumps about, the same each time.
type turns struct{ now uint64 }

func (r *turns) below(n int) int {
	r.now = r.now*6364136223846793005 + 1442695040888963407
	return int(r.now>>33) % n
}

// anyInstr is an instruction, right nearly always, of registers and places
// that meet each other.
func anyInstr(r *turns, length int) api.Instr {
	regs := []int{0, 1, 2, 3, 4, 5, 30, 31}
	reg := func() int { return regs[r.below(len(regs))] }
	small := []int{0, 1, 2, 3, -1, -2, 7, 100, -100, 32767, -32768}
	i := api.Instr{Op: r.below(22)}
	switch {
	case api.Add <= i.Op && i.Op <= api.Seq:
		return three(i.Op, reg(), reg(), reg())
	case i.Op == api.AddI || i.Op == api.Lw || i.Op == api.Sw:
		return two(i.Op, reg(), reg(), small[r.below(len(small))])
	case i.Op == api.Lui:
		return lui(reg(), small[r.below(len(small))])
	case i.Op == api.Check:
		return two(i.Op, reg(), r.below(32), 32767>>r.below(15))
	case i.Op == api.Beq || i.Op == api.Bne:
		return two(i.Op, reg(), reg(), r.below(2*length)-length)
	case i.Op == api.Jmp || i.Op == api.Jal:
		return to(i.Op, r.below(length+1))
	case i.Op == api.Jr:
		return jr(reg())
	case i.Op == api.Sys:
		return sys([]int{0, 1, 1, 2, 2, 2, 2, 2}[r.below(8)])
	}
	return i
}

// P7.1, P7.2: much code of any instructions, with each fuel, against the
// reference.
func TestMuchCode(t *testing.T) {
	r, in := &turns{7}, values()
	for range 20000 {
		length := 1 + r.below(24)
		code := make([]api.Instr, length)
		for at := range code {
			code[at] = anyInstr(r, length)
		}
		from := r.below(len(in))
		agree(t, code, r.below(12), in[from:], 40)
	}
}

// P7.2: with more fuel a machine does the same, and more: the output of fewer
// steps is a beginning; one that stopped does no more.
func TestMoreFuel(t *testing.T) {
	in := []int{9, 8, 7, 6, 5, 4, 3, 2, 1, 0}
	last := Run(sorts(), 10, in, 0)
	for fuel := 1; fuel < 900; fuel++ {
		now := Run(sorts(), 10, in, fuel)
		if len(now.Out) < len(last.Out) || !slices.Equal(now.Out[:len(last.Out)], last.Out) {
			t.Fatalf("fuel %d: the output %v does not begin with %v", fuel, now.Out, last.Out)
		}
		if last.Trap != api.Runs && !same(now, last) {
			t.Fatalf("fuel %d: it stopped, and did more: %s, %s", fuel, brief(last), brief(now))
		}
		if last.Trap == api.Runs && now.Steps != fuel {
			t.Fatalf("fuel %d: %d steps", fuel, now.Steps)
		}
		last = now
	}
	if last.Trap != api.Halted {
		t.Errorf("it did not halt: %s", brief(last))
	}
}

// R1, R4: code and input stay as they were, and what is told is new memory:
// the same call tells the same, whatever was written into an answer.
func TestNewMemory(t *testing.T) {
	in := []int{5, round + 3, least, 1, 2, 3, 4, 9, 8, 7}
	code := sorts()
	keptIn, keptCode := slices.Clone(in), slices.Clone(code)
	first := Run(code, 10, in, 9999)
	second := Run(code, 10, in, 9999)
	expect(t, "again", second, first)
	for i := range first.Out {
		first.Out[i], first.Mem[i] = -50, -60
	}
	_ = append(append(first.Out, 1), first.Mem...)
	if !slices.Equal(in, keptIn) || !slices.Equal(code, keptCode) {
		t.Error("what was handed in is turned")
	}
	expect(t, "once more", Run(code, 10, in, 9999), second)
	if slices.Contains(first.Out, -60) || slices.Contains(first.Mem, -50) {
		t.Error("Out and Mem share memory")
	}
}

// R1: input with room behind it is not written into.
func TestInputHasRoom(t *testing.T) {
	whole := []int{1, 2, 3, 4, 5}
	Run(list(sys(1), sys(2), to(api.Jmp, 0)), 0, whole[:2], 99)
	if !slices.Equal(whole, []int{1, 2, 3, 4, 5}) {
		t.Errorf("the input is turned: %v", whole)
	}
}
