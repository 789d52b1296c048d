package text

import (
	"fmt"
	"math"
	"math/big"
	"regexp"
	"slices"
	"strings"
	"testing"

	"delayslot/api"
)

const round = 1 << 32

// row is what the chapters tell of one operation: its name, its parts by their
// letters (I is Imm), and the bounds of Imm.
type row struct {
	name            string
	has             string
	least, greatest int
}

// table has all names and numbers written out, so that a change of the
// program's own shows.
var table = []row{
	{"nop", "", 0, 0},
	{"add", "ABC", 0, 0},
	{"sub", "ABC", 0, 0},
	{"mul", "ABC", 0, 0},
	{"div", "ABC", 0, 0},
	{"mod", "ABC", 0, 0},
	{"and", "ABC", 0, 0},
	{"or", "ABC", 0, 0},
	{"slt", "ABC", 0, 0},
	{"seq", "ABC", 0, 0},
	{"addi", "ABI", -32768, 32767},
	{"lui", "AI", -32768, 32767},
	{"lw", "ABI", -32768, 32767},
	{"sw", "ABI", -32768, 32767},
	{"check", "ABI", 0, 32767},
	{"beq", "ABI", -32768, 32767},
	{"bne", "ABI", -32768, 32767},
	{"jmp", "I", 0, 4096},
	{"jal", "I", 0, 4096},
	{"jr", "A", 0, 0},
	{"sys", "I", 0, 2},
}

// operations are api's, in the order of the table.
func operations() []int {
	return []int{api.Nop, api.Add, api.Sub, api.Mul, api.Div, api.Mod, api.And, api.Or, api.Slt, api.Seq, api.AddI,
		api.Lui, api.Lw, api.Sw, api.Check, api.Beq, api.Bne, api.Jmp, api.Jal, api.Jr, api.Sys}
}

// value: the part of a letter.
func value(i api.Instr, letter rune) int {
	return map[rune]int{'A': i.A, 'B': i.B, 'C': i.C, 'I': i.Imm}[letter]
}

// set: the instruction with another part of a letter.
func set(i api.Instr, letter rune, n int) api.Instr {
	switch letter {
	case 'A':
		i.A = n
	case 'B':
		i.B = n
	case 'C':
		i.C = n
	case 'I':
		i.Imm = n
	}
	return i
}

// bounds: the least and the greatest of a part.
func (r row) bounds(letter rune) (int, int) {
	switch {
	case !strings.ContainsRune(r.has, letter):
		return 0, 0
	case letter == 'I':
		return r.least, r.greatest
	}
	return 0, 31
}

// isRight is the reference of which instructions are right.
func isRight(i api.Instr) bool {
	if i.Op < 0 || i.Op >= len(table) {
		return false
	}
	for _, letter := range "ABCI" {
		least, greatest := table[i.Op].bounds(letter)
		if n := value(i, letter); n < least || n > greatest {
			return false
		}
	}
	return true
}

// wantText is the reference of Text.
func wantText(i api.Instr) string {
	if !isRight(i) {
		return ""
	}
	s := table[i.Op].name
	for at, letter := range table[i.Op].has {
		s += map[bool]string{true: " ", false: ","}[at == 0]
		if letter != 'I' {
			s += "r"
		}
		s += fmt.Sprint(value(i, letter))
	}
	return s
}

// patterns are those of the texts of each operation, with any numbers.
func patterns() []*regexp.Regexp {
	var l []*regexp.Regexp
	for _, r := range table {
		var parts []string
		for _, letter := range r.has {
			if letter == 'I' {
				parts = append(parts, `(0|-?[1-9][0-9]*)`)
			} else {
				parts = append(parts, `r(0|[1-9][0-9]*)`)
			}
		}
		p := r.name
		if len(parts) > 0 {
			p += " " + strings.Join(parts, ",")
		}
		l = append(l, regexp.MustCompile(`\A`+p+`\z`))
	}
	return l
}

var all = patterns()

// wantParse is the reference of Parse: by patterns, and numbers of any length.
func wantParse(s string) (api.Instr, bool) {
	for op, p := range all {
		found := p.FindStringSubmatch(s)
		if found == nil {
			continue
		}
		i := api.Instr{Op: op}
		for at, letter := range table[op].has {
			n, _ := new(big.Int).SetString(found[at+1], 10)
			least, greatest := table[op].bounds(letter)
			if n.Cmp(big.NewInt(int64(least))) < 0 || n.Cmp(big.NewInt(int64(greatest))) > 0 {
				return api.Instr{}, false
			}
			i = set(i, letter, int(n.Int64()))
		}
		return i, true
	}
	return api.Instr{}, false
}

// holdText holds the text of an instruction against the reference, and reads
// it again (P4.2).
func holdText(t *testing.T, i api.Instr) {
	t.Helper()
	s := Text(i)
	if want := wantText(i); s != want {
		t.Errorf("Text(%+v) = %q, want %q", i, s, want)
	}
	j, ok := Parse(s)
	if right := isRight(i); ok != right || right && j != i || !right && j != (api.Instr{}) {
		t.Errorf("Parse(Text(%+v)) = %+v, %t", i, j, ok)
	}
}

// holdParse holds what is parsed against the reference, and writes it again
// (P4.2).
func holdParse(t *testing.T, s string) {
	t.Helper()
	i, ok := Parse(s)
	if want, wantOk := wantParse(s); i != want || ok != wantOk {
		t.Errorf("Parse(%q) = %+v, %t, want %+v, %t", s, i, ok, want, wantOk)
	}
	if ok && Text(i) != s {
		t.Errorf("Text(Parse(%q)) = %q", s, Text(i))
	}
}

// The operations are those of the table, by their numbers.
func TestOperationsAreTheTables(t *testing.T) {
	if len(operations()) != len(table) {
		t.Fatalf("there are %d operations, and %d rows", len(operations()), len(table))
	}
	for i, op := range operations() {
		if op != i {
			t.Errorf("%s has the number %d, want %d", table[i].name, op, i)
		}
	}
}

// pair is an instruction, and its text.
type pair struct {
	i api.Instr
	s string
}

// ordinary has at least one of each operation, written out by hand; and the
// chapter's examples.
func ordinary() []pair {
	return []pair{
		{api.Instr{Op: api.Nop}, "nop"},
		{api.Instr{Op: api.Add, A: 1, B: 2, C: 3}, "add r1,r2,r3"},
		{api.Instr{Op: api.Sub, A: 9, B: 10, C: 11}, "sub r9,r10,r11"},
		{api.Instr{Op: api.Mul, A: 8, B: 9, C: 8}, "mul r8,r9,r8"},
		{api.Instr{Op: api.Div, A: 31, B: 0, C: 30}, "div r31,r0,r30"},
		{api.Instr{Op: api.Mod, A: 0, B: 31, C: 1}, "mod r0,r31,r1"},
		{api.Instr{Op: api.And, A: 12, B: 13, C: 14}, "and r12,r13,r14"},
		{api.Instr{Op: api.Or, A: 15, B: 15, C: 15}, "or r15,r15,r15"},
		{api.Instr{Op: api.Slt, A: 20, B: 21, C: 29}, "slt r20,r21,r29"},
		{api.Instr{Op: api.Seq}, "seq r0,r0,r0"},
		{api.Instr{Op: api.AddI, A: 29, B: 29, Imm: -3}, "addi r29,r29,-3"},
		{api.Instr{Op: api.Lui, A: 3, Imm: 7}, "lui r3,7"},
		{api.Instr{Op: api.Lui, A: 31, Imm: -32768}, "lui r31,-32768"},
		{api.Instr{Op: api.Lw, A: 8, B: 30, Imm: 12}, "lw r8,r30,12"},
		{api.Instr{Op: api.Sw, A: 31, B: 29, Imm: 0}, "sw r31,r29,0"},
		{api.Instr{Op: api.Check, A: 1, B: 2, Imm: 30}, "check r1,r2,30"},
		{api.Instr{Op: api.Beq, A: 4, B: 0, Imm: -10}, "beq r4,r0,-10"},
		{api.Instr{Op: api.Bne, A: 0, B: 4, Imm: 32767}, "bne r0,r4,32767"},
		{api.Instr{Op: api.Jmp, Imm: 5}, "jmp 5"},
		{api.Instr{Op: api.Jal, Imm: 4096}, "jal 4096"},
		{api.Instr{Op: api.Jr, A: 31}, "jr r31"},
		{api.Instr{Op: api.Sys, Imm: 0}, "sys 0"},
		{api.Instr{Op: api.Sys, Imm: 1}, "sys 1"},
		{api.Instr{Op: api.Sys, Imm: 2}, "sys 2"},
	}
}

// P4.1: an ordinary instruction of each operation, both ways.
func TestEachOperation(t *testing.T) {
	for _, c := range ordinary() {
		if got := Text(c.i); got != c.s {
			t.Errorf("Text(%+v) = %q, want %q", c.i, got, c.s)
		}
		if got, ok := Parse(c.s); got != c.i || !ok {
			t.Errorf("Parse(%q) = %+v, %t, want %+v", c.s, got, ok, c.i)
		}
	}
}

// P4.1, P4.2: each part of each operation at all its numbers and the ones
// beside, with the others at 0.
func TestAllNumbersOfAPart(t *testing.T) {
	for op, r := range table {
		for _, letter := range r.has {
			least, greatest := r.bounds(letter)
			for n := least - 2; n <= greatest+2; n++ {
				holdText(t, set(api.Instr{Op: op}, letter, n))
			}
		}
	}
}

// P4.1, P4.2: each part of each operation at its bounds and the numbers beside
// them, with the others at their bounds.
func TestBoundsOfParts(t *testing.T) {
	for op, r := range table {
		for _, rest := range corners(op) {
			for _, letter := range r.has {
				least, greatest := r.bounds(letter)
				for _, n := range []int{least - 1, least, least + 1, greatest - 1, greatest, greatest + 1} {
					holdText(t, set(rest, letter, n))
				}
			}
		}
	}
}

// corners: those of an operation, with each part at its least and greatest.
func corners(op int) []api.Instr {
	l := []api.Instr{{Op: op}}
	for _, letter := range table[op].has {
		least, greatest := table[op].bounds(letter)
		for _, i := range slices.Clone(l) {
			l = append(l, set(i, letter, least), set(i, letter, greatest))
		}
	}
	return l
}

// P4.2: all registers in all places.
func TestAllRegisters(t *testing.T) {
	for op, r := range table {
		if r.has != "ABC" {
			continue
		}
		for n := range 32 * 32 * 32 {
			holdText(t, api.Instr{Op: op, A: n / 1024, B: n / 32 % 32, C: n % 32})
		}
	}
}

// numbers are of any size; among these the bounds of each part, the numbers
// beside them, and some whose lowest bits are a part's.
func numbers() []int {
	return []int{0, 1, 2, 3, 4, 9, 10, 30, 31, 32, 33, 63, 64, 99, 100, 4095, 4096, 4097, 32766, 32767, 32768, 65535, 65536, 65537,
		1 << 31, round, round + 1, round + 31, -1, -2, -9, -10, -31, -32, -4096, -32767, -32768, -32769, -65536, -65537,
		-1 << 31, -round, -round + 1, math.MaxInt, math.MaxInt - 1, math.MinInt, math.MinInt + 1}
}

// P4.1: a part that an operation does not have, a number that is none of a
// part, and an operation that is none: no text.
func TestTextOfWrongOnes(t *testing.T) {
	ops := append(operations(), -1, -2, -20, 21, 22, 31, 32, 64, 1<<26, 1<<31, round, round+1, round+20, -round, math.MaxInt, math.MinInt, math.MinInt+1)
	for _, op := range ops {
		for _, rest := range []api.Instr{{}, {A: 1}, {A: 31, Imm: 1}, {A: 3, B: 5}, {A: 3, B: 5, C: 7}, {A: 3, B: 5, Imm: 9}, {Imm: 2}, {A: 1, B: 2, C: 3, Imm: 4}} {
			rest.Op = op
			for _, letter := range "ABCI" {
				for _, n := range numbers() {
					holdText(t, set(rest, letter, n))
				}
			}
		}
	}
	for _, i := range []api.Instr{{Op: 99}, {Op: -1}, {Op: 21}, {A: 1}, {Imm: 1}, {Op: api.Add, A: 32}, {Op: api.Add, Imm: 1}, {Op: api.Sys, Imm: 3},
		{Op: api.Jmp, Imm: 4097}, {Op: api.Jmp, Imm: -1}, {Op: api.Check, Imm: -1}, {Op: api.AddI, Imm: 32768}, {Op: api.Lui, Imm: -32769}, {Op: api.Jr, A: -1}} {
		if s := Text(i); s != "" {
			t.Errorf("Text(%+v) = %q, want none", i, s)
		}
	}
}

// P4.1: texts of no instruction, written out by hand.
func TestParseOfWrongOnes(t *testing.T) {
	for _, s := range []string{
		"", " ", ",", "\n", "r1", "5", "-", "what", "what r1", "no", "nopp", "a", "ad", "addd r1,r2,r3", "addr1,r2,r3", "instr", "halt",
		"NOP", "Nop", "ADD r1,r2,r3", "Add r1,r2,r3", "add R1,r2,r3", "JMP 5", "Jr r1",
		"nop ", " nop", "nop  ", "nop\n", "nop\x00", "nop 0", "nop r0", "nop ,", "nop,", "nop r1,r2,r3",
		"add", "add ", "add r1", "add r1,", "add r1,r2", "add r1,r2,", "add r1,r2,r3,", "add r1,r2,r3,r4", "add r1,r2,r3,0", "add r1,r2,r3 ",
		"add  r1,r2,r3", " add r1,r2,r3", "add r1, r2,r3", "add r1 ,r2,r3", "add r1,r2 r3", "add r1 r2 r3", "add r1,,r3", "add ,r2,r3", "add r1,,r2,r3",
		"add r1,r2,r3\n", "add\tr1,r2,r3", "add\nr1,r2,r3", "add,r1,r2,r3", "add r1;r2;r3", "add r1,r2,3", "add 1,2,3", "add 1,r2,r3", "add r,r2,r3",
		"add r1,r,r3", "add r1,r2,r", "add r32,r2,r3", "add r1,r2,r32", "add r-1,r2,r3", "add -r1,r2,r3", "add r-0,r2,r3", "add r+1,r2,r3", "add +r1,r2,r3",
		"add r01,r2,r3", "add r1,r00,r3", "add rr1,r2,r3", "add r1,r2,rr3", "add r1r,r2,r3", "add r 1,r2,r3", "add $1,$2,$3", "add r0x1,r2,r3", "add r1_0,r2,r3",
		"add r1,r2,r4294967296", "add r1,r2,r4294967299", "add r18446744073709551617,r2,r3",
		"addi", "addi r1,r2", "addi r1,r2,", "addi r1,r2,r3", "addi r1,2,3", "addi r1,r2,32768", "addi r1,r2,-32769", "addi r1,r2,40000", "addi r1,r2,+5",
		"addi r1,r2,-0", "addi r1,r2,--5", "addi r1,r2,- 5", "addi r1,r2,-05", "addi r1,r2,05", "addi r1,r2,-", "addi r1,r2,5,6", "addi r1,r2,r5", "addi r1,r2,65535",
		"addi r1,r2,5-", "addi r1,r2,5.0", "addi r1,r2,1e3", "addi r1,r2,0x5", "addi r1,r2,1_000", "addi r1,r2,r-5", "addi r1,r2,99999999999999999999999999",
		"lui r1", "lui 1,2", "lui r1,r2", "lui r1,r2,3", "lui r1,40000", "lui r1,-32769", "lw r1,12(r30)", "lw r1,r2", "sw r1", "sw r1,r2,32768",
		"check r1,2,30", "check r1,r2,-1", "check r1,r2,32768", "check r1,r32,5", "check r1,30", "beq r1,r2", "beq r1,r2,32768", "bne 1",
		"jmp", "jmp ", "jmp r5", "jmp -1", "jmp -0", "jmp +5", "jmp 05", "jmp 00", "jmp 4097", "jmp 5,", "jmp 5,6", "jmp 5 ", "jmp  5", "jmp ,5", "jmp5",
		"jmp 18446744073709551621", "jmp -18446744073709551611", "jmp 4294967301", "jmp 9223372036854775808",
		"jal r31", "jal 4097", "jal r31,5", "jr", "jr 31", "jr r32", "jr r31,", "jr r31,0", "jr r", "jr r-1", "jr r031", "jr rr1",
		"sys", "sys 3", "sys -1", "sys -0", "sys 00", "sys 01", "sys r1", "sys 0,0", "sys halt", "sys 2\n",
		"jmp \u0665", "jmp \uff15", "addi r1,r2,\u22125", "add\u00a0r1,r2,r3", "\ufeffnop", "nop\u200b", "\xff", "nop\xff", "jmp 5\xff", "jmp \x805",
	} {
		if i, ok := Parse(s); ok || i != (api.Instr{}) {
			t.Errorf("Parse(%q) = %+v, %t, want none", s, i, ok)
		}
		holdParse(t, s)
	}
}

// P4.1: texts with one byte more, less, or another one, at each place: bytes of
// all kinds.
func TestParseOfNearlyRightOnes(t *testing.T) {
	for _, c := range ordinary() {
		for at := range len(c.s) + 1 {
			for b := range 256 {
				holdParse(t, c.s[:at]+string([]byte{byte(b)})+c.s[at:])
				if at < len(c.s) {
					holdParse(t, c.s[:at]+string([]byte{byte(b)})+c.s[at+1:])
				}
			}
			if at < len(c.s) {
				holdParse(t, c.s[:at]+c.s[at+1:])
			}
			holdParse(t, c.s[:at])
			holdParse(t, c.s[at:])
		}
	}
}

// P4.1: each name with the parts of each other one, and with parts of all
// kinds.
func TestParseOfNamesWithAnyParts(t *testing.T) {
	parts := []string{"r0", "r31", "r32", "r", "0", "2", "-1", "-0", "4096", "4097", "32767", "32768", "-32768", "-32769", "00", "+1", ""}
	lists := []string{"", " "}
	for _, a := range parts {
		lists = append(lists, " "+a)
		for _, b := range parts {
			lists = append(lists, " "+a+","+b)
			for _, c := range parts {
				lists = append(lists, " "+a+","+b+","+c)
			}
		}
	}
	for _, r := range table {
		for _, l := range lists {
			holdParse(t, r.name+l)
		}
	}
	for _, l := range lists {
		holdParse(t, l)
		holdParse(t, "addu"+l)
	}
}

// P4.1: all short tails of names with few parts.
func TestParseOfAllShortTails(t *testing.T) {
	tails := []string{""}
	for range 4 {
		longer := []string{""}
		for _, s := range tails {
			for _, b := range "r0123, -+n" {
				longer = append(longer, s+string(b))
			}
		}
		tails = longer
	}
	for _, s := range tails {
		for _, name := range []string{"nop", "jr", "jmp", "jr ", "jmp ", "sys ", "lui r1", "lui r1,", ""} {
			holdParse(t, name+s)
		}
	}
}

// P4.1: numbers of any length, and texts of any length, end.
func TestParseOfLongOnes(t *testing.T) {
	for _, length := range []int{5, 18, 19, 20, 21, 64, 1000, 100000} {
		for _, digit := range []string{"0", "1", "9"} {
			digits := strings.Repeat(digit, length)
			for _, s := range []string{"jmp ", "jmp -", "jr r", "sys ", "addi r1,r2,", "addi r1,r2,-", "add r1,r2,r", "jmp 5,"} {
				holdParse(t, s+digits)
				holdParse(t, s+"0"+digits)
				holdParse(t, s+digits+"5")
			}
		}
	}
	for _, b := range []string{" ", ",", "r", "-", "nop", "add ", "r1,", "\x00", "\xff", "jmp 5\n"} {
		long := strings.Repeat(b, 1000000)
		for _, s := range []string{long, "nop" + long, "add r1,r2,r3" + long, "add " + long, "jmp 5" + long, "jmp " + long} {
			if i, ok := Parse(s); ok || i != (api.Instr{}) {
				t.Errorf("Parse(%q..) = %+v, %t, want none", s[:16], i, ok)
			}
		}
	}
}

// P4.1: listings of no, one and several instructions, with some that are not
// right among them.
func TestListing(t *testing.T) {
	cases := []struct {
		code []api.Instr
		want string
	}{
		{nil, ""},
		{[]api.Instr{}, ""},
		{[]api.Instr{{}}, "0: nop\n"},
		{[]api.Instr{{Op: api.Jmp, Imm: 5}}, "0: jmp 5\n"},
		{[]api.Instr{{Op: 99}}, "0: \n"},
		{[]api.Instr{{Op: api.Jmp, Imm: 1}, {Op: 99}}, "0: jmp 1\n1: \n"},
		{[]api.Instr{{A: 1}, {Op: api.AddI, A: 1, Imm: -5}, {Op: api.Sys, Imm: 3}, {Op: api.Sys}}, "0: \n1: addi r1,r0,-5\n2: \n3: sys 0\n"},
		{make([]api.Instr, 12), "0: nop\n1: nop\n2: nop\n3: nop\n4: nop\n5: nop\n6: nop\n7: nop\n8: nop\n9: nop\n10: nop\n11: nop\n"},
	}
	for _, c := range cases {
		if got := Listing(c.code); got != c.want {
			t.Errorf("Listing(%+v) = %q, want %q", c.code, got, c.want)
		}
	}
}

// P4.1: a listing of more code than a machine has, each line read again.
func TestListingOfMany(t *testing.T) {
	var code []api.Instr
	for len(code) < 10100 {
		for _, c := range ordinary() {
			code = append(code, c.i, api.Instr{Op: len(code)})
		}
	}
	before := slices.Clone(code)
	lines := strings.SplitAfter(Listing(code), "\n")
	if len(lines) != len(code)+1 || lines[len(code)] != "" {
		t.Fatalf("there are %d lines of %d instructions", len(lines), len(code))
	}
	for place, i := range code {
		if want := fmt.Sprintf("%d: %s\n", place, wantText(i)); lines[place] != want {
			t.Errorf("line %d: %q, want %q", place, lines[place], want)
		}
	}
	if !slices.Equal(code, before) {
		t.Error("the code was changed")
	}
}
