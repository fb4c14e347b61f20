package instr_test

import (
	"bytes"
	"encoding/binary"
	"math"
	"slices"
	"strings"
	"testing"

	"tumbler/api"
	"tumbler/instr"
)

// kind is what the document's table tells of a kind.
type kind struct {
	op     int
	name   string
	fields string
}

// kinds is the document's table, in its order.
func kinds() []kind {
	return []kind{
		{instr.Set, "set", "A Imm"},
		{instr.Move, "move", "A B"},
		{instr.Plus, "plus", "A B C"},
		{instr.Minus, "minus", "A B C"},
		{instr.Times, "times", "A B C"},
		{instr.Modulo, "modulo", "A B C"},
		{instr.Equal, "equal", "A B C"},
		{instr.Less, "less", "A B C"},
		{instr.Arg, "arg", "A Imm"},
		{instr.Root, "root", "A B"},
		{instr.PutRoot, "putroot", "A B"},
		{instr.Read, "read", "A B Imm"},
		{instr.ReadAt, "readat", "A B C"},
		{instr.Write, "write", "A B Imm"},
		{instr.WriteAt, "writeat", "A B C"},
		{instr.New, "new", "A"},
		{instr.Free, "free", "A"},
		{instr.Go, "go", "Imm"},
		{instr.Zero, "zero", "A Imm"},
		{instr.Back, "back", "A Imm"},
		{instr.Return, "return", "A"},
		{instr.Abort, "abort", "Imm"},
	}
}

func (k kind) has(field string) bool {
	return slices.Contains(strings.Fields(k.fields), field)
}

// others are numbers of no kind.
func others() []int {
	return []int{-1, 22, 23, 256, -256, 1 << 32, math.MaxInt, math.MinInt}
}

// P3.1: each kind's number, and how many there are.
func TestKinds(t *testing.T) {
	if instr.Kinds != 22 || len(kinds()) != 22 {
		t.Fatal("there are not 22 kinds")
	}
	for i, k := range kinds() {
		if k.op != i {
			t.Errorf("%s is %d, not %d", k.name, k.op, i)
		}
	}
}

// P3.1: a kind's name, and the kind of a name.
func TestNames(t *testing.T) {
	for op, k := range kinds() {
		if got := instr.Name(op); got != k.name {
			t.Errorf("Name(%d): %q, not %q", op, got, k.name)
		}
		if got, ok := instr.Of(k.name); got != op || !ok {
			t.Errorf("Of(%q): %d, %v, not %d", k.name, got, ok, op)
		}
		for _, wrong := range []string{strings.ToUpper(k.name), k.name + "s", k.name + " ", " " + k.name, k.name[:len(k.name)-1], k.name + "\x00"} {
			if got, ok := instr.Of(wrong); got != 0 || ok {
				t.Errorf("Of(%q): %d, %v", wrong, got, ok)
			}
		}
	}
	for _, op := range others() {
		if got := instr.Name(op); got != "" {
			t.Errorf("Name(%d): %q", op, got)
		}
	}
	for _, wrong := range []string{"", "ret", "put", "0", "\xff", strings.Repeat("set", 1<<16)} {
		if got, ok := instr.Of(wrong); got != 0 || ok {
			t.Errorf("Of(%.20q): %d, %v", wrong, got, ok)
		}
	}
}

// P3.1: which fields a kind has; none of another number.
func TestUses(t *testing.T) {
	for op, k := range kinds() {
		a, b, c, imm := instr.Uses(op)
		if a != k.has("A") || b != k.has("B") || c != k.has("C") || imm != k.has("Imm") {
			t.Errorf("Uses of %s: %v %v %v %v", k.name, a, b, c, imm)
		}
	}
	for _, op := range others() {
		if a, b, c, imm := instr.Uses(op); a || b || c || imm {
			t.Errorf("Uses(%d): %v %v %v %v", op, a, b, c, imm)
		}
	}
}

// with is an instruction with a register in one of its fields.
func with(i api.Instr, field string, reg int) api.Instr {
	switch field {
	case "A":
		i.A = reg
	case "B":
		i.B = reg
	case "C":
		i.C = reg
	}
	return i
}

func plain(t *testing.T, i api.Instr, want bool) {
	t.Helper()
	if got := instr.Plain(i); got != want {
		t.Errorf("Plain(%v): %v", i, got)
	}
	// What isn't plain is neither encoded.
	b, e := instr.Encode([]api.Instr{i})
	if want && (e != api.OK || len(b) != 16) || !want && (e != api.ErrCode || len(b) != 0) {
		t.Errorf("Encode(%v): %v, %d", i, b, e)
	}
}

// P3.1: what may stand in each field of each kind.
func TestPlain(t *testing.T) {
	for op, k := range kinds() {
		bare := api.Instr{Op: op}
		plain(t, bare, true)
		for _, field := range []string{"A", "B", "C"} {
			for reg := range 16 {
				plain(t, with(bare, field, reg), k.has(field) || reg == 0)
			}
			for _, reg := range []int{-1, 16, 17, 255, 256, 257, 1 << 16, 1 << 32, -256, math.MaxInt, math.MinInt} {
				plain(t, with(bare, field, reg), false)
			}
		}
		for _, imm := range []uint64{1, 8, 255, 256, 1 << 32, 1 << 63, math.MaxUint64} {
			plain(t, api.Instr{Op: op, Imm: imm}, k.has("Imm"))
		}
	}
	for _, op := range others() {
		plain(t, api.Instr{Op: op}, false)
		plain(t, api.Instr{Op: op, A: 1, B: 1, C: 1, Imm: 1}, false)
	}
}

// P3.1: several fields at once, of which each counts.
func TestPlainTogether(t *testing.T) {
	full := api.Instr{Op: instr.Plus, A: 15, B: 15, C: 15}
	plain(t, full, true)
	for _, field := range []string{"A", "B", "C"} {
		plain(t, with(full, field, 16), false)
		plain(t, with(full, field, -1), false)
	}
	plain(t, api.Instr{Op: instr.Read, A: 15, B: 15, Imm: math.MaxUint64}, true)
	plain(t, api.Instr{Op: instr.Read, A: 15, B: 15, C: 1, Imm: math.MaxUint64}, false)
	plain(t, api.Instr{Op: instr.Plus, A: 15, B: 15, C: 15, Imm: 1}, false)
}

// bytesOf is a program's bytes as the document lays them, worked out another way.
func bytesOf(code []api.Instr) []byte {
	b := binary.LittleEndian.AppendUint16([]byte("TB"), uint16(len(code)))
	for _, i := range code {
		b = append(b, byte(i.Op), byte(i.A), byte(i.B), byte(i.C))
		b = binary.LittleEndian.AppendUint64(b, i.Imm)
	}
	return b
}

// turned holds for a program that is encoded as it should be, and decoded to itself.
func turned(t *testing.T, code []api.Instr) []byte {
	t.Helper()
	b, e := instr.Encode(code)
	if e != api.OK || !bytes.Equal(b, bytesOf(code)) {
		t.Fatalf("Encode(%v): %v, %d", code, b, e)
	}
	got, e := instr.Decode(b)
	if e != api.OK || !slices.Equal(got, code) {
		t.Fatalf("Decode(%v): %v, %d", b, got, e)
	}
	return b
}

// P3.1: the document's example.
func TestExample(t *testing.T) {
	b := turned(t, []api.Instr{{Op: instr.Set, A: 1, Imm: 258}})
	if want := []byte{'T', 'B', 1, 0, 0, 1, 0, 0, 2, 1, 0, 0, 0, 0, 0, 0}; !bytes.Equal(b, want) {
		t.Errorf("%v, not %v", b, want)
	}
}

// P3.1, P3.2: programs of every kind and of every length are encoded, and decoded.
func TestEncode(t *testing.T) {
	turned(t, nil)
	turned(t, []api.Instr{})
	var code []api.Instr
	for op, k := range kinds() {
		i := api.Instr{Op: op}
		if k.has("Imm") {
			i.Imm = 0x0102030405060708 << (op % 8)
		}
		for n, field := range []string{"A", "B", "C"} {
			if k.has(field) {
				i = with(i, field, 13+n)
			}
		}
		turned(t, []api.Instr{i})
		code = append(code, i)
	}
	turned(t, code)
	for n := range 257 {
		long := make([]api.Instr, n)
		for i := range long {
			long[i] = api.Instr{Op: instr.Set, A: i % 16, Imm: uint64(i) << (i % 64)}
		}
		turned(t, long)
	}
}

// P3.1: what Encode refuses, and in which order.
func TestEncodeRefuses(t *testing.T) {
	refused := func(code []api.Instr, want api.Errno) {
		t.Helper()
		if b, e := instr.Encode(code); e != want || len(b) != 0 {
			t.Errorf("Encode of %d: %d bytes, error %d, not %d", len(code), len(b), e, want)
		}
	}
	bad := func(n, at int) []api.Instr {
		code := make([]api.Instr, n)
		code[at].C = 1
		return code
	}
	refused(make([]api.Instr, 257), api.ErrMany)
	refused(make([]api.Instr, 512), api.ErrMany)
	refused(make([]api.Instr, 1<<16), api.ErrMany)
	refused(make([]api.Instr, 1<<16+1), api.ErrMany)
	refused(bad(1, 0), api.ErrCode)
	refused(bad(256, 0), api.ErrCode)
	refused(bad(256, 255), api.ErrCode)
	refused(bad(257, 0), api.ErrMany)
	refused(bad(257, 256), api.ErrMany)
}

// P3.1: what Decode refuses, and in which order.
func TestDecodeRefuses(t *testing.T) {
	one := "\x00\x01\x00\x00\x02\x01\x00\x00\x00\x00\x00\x00"
	bad := "\x16\x00\x00\x00\x00\x00\x00\x00\x00\x00\x00\x00"
	for text, want := range map[string]api.Errno{
		"":                                     api.ErrShort,
		"T":                                    api.ErrShort,
		"TB":                                   api.ErrShort,
		"TB\x00":                               api.ErrShort,
		"TB\x01":                               api.ErrShort,
		"X":                                    api.ErrShort,
		"XYZ":                                  api.ErrShort,
		"TC\x00\x00":                           api.ErrForm,
		"SB\x00\x00":                           api.ErrForm,
		"BT\x00\x00":                           api.ErrForm,
		"tb\x00\x00":                           api.ErrForm,
		"SB\x01\x01":                           api.ErrForm,
		"TC\xff\xff":                           api.ErrForm,
		"TC\x01\x00":                           api.ErrForm,
		"TC\x00\x00x":                          api.ErrForm,
		"TC\x01\x00" + bad:                     api.ErrForm,
		"TB\x01\x01":                           api.ErrMany,
		"TB\x00\x02":                           api.ErrMany,
		"TB\xff\xff":                           api.ErrMany,
		"TB\x01\x01" + one:                     api.ErrMany,
		"TB\x01\x01" + bad:                     api.ErrMany,
		"TB\x00\x01":                           api.ErrShort,
		"TB\x01\x00":                           api.ErrShort,
		"TB\x01\x00" + one[:11]:                api.ErrShort,
		"TB\x01\x00" + bad[:11]:                api.ErrShort,
		"TB\x02\x00" + one:                     api.ErrShort,
		"TB\x02\x00" + bad:                     api.ErrShort,
		"TB\x02\x00" + bad + one[:11]:          api.ErrShort,
		"TB\x00\x00x":                          api.ErrMore,
		"TB\x00\x00" + one:                     api.ErrMore,
		"TB\x01\x00" + one + "\x00":            api.ErrMore,
		"TB\x01\x00" + bad + "\x00":            api.ErrMore,
		"TB\x01\x00" + one + one:               api.ErrMore,
		"TB\x01\x00" + bad:                     api.ErrCode,
		"TB\x02\x00" + one + bad:               api.ErrCode,
		"TB\x02\x00" + bad + one:               api.ErrCode,
		"TB\x01\x00\xff" + one[1:]:             api.ErrCode,
		"TB\x01\x00\x00\x10" + one[2:]:         api.ErrCode,
		"TB\x01\x00\x00\xff" + one[2:]:         api.ErrCode,
		"TB\x01\x00\x00\x01\x01" + one[3:]:     api.ErrCode,
		"TB\x01\x00\x00\x01\x00\x01" + one[4:]: api.ErrCode,
		"TB\x01\x00\x14\x01\x00\x00" + one[4:]: api.ErrCode,
		"TB\x01\x00\x14\x01\x00\x00\x00\x00\x00\x00\x00\x00\x00\x80": api.ErrCode,
	} {
		if got, e := instr.Decode([]byte(text)); e != want || len(got) != 0 {
			t.Errorf("Decode(%q): %v, error %d, not %d", text, got, e, want)
		}
	}
	if _, e := instr.Decode(nil); e != api.ErrShort {
		t.Errorf("Decode(nil): %d", e)
	}
}

// P3.1: how many bytes there may be, of each number that the bytes tell of.
func TestDecodeLengths(t *testing.T) {
	for _, n := range []int{0, 1, 2, 255, 256} {
		for _, off := range []int{-13, -12, -11, -1, 0, 1, 11, 12} {
			size := 4 + 12*n + off
			if size < 4 {
				continue
			}
			b := make([]byte, size)
			copy(b, []byte{'T', 'B', byte(n), byte(n >> 8)})
			want := api.OK
			if off < 0 {
				want = api.ErrShort
			} else if off > 0 {
				want = api.ErrMore
			}
			got, e := instr.Decode(b)
			if e != want || e == api.OK && len(got) != n || e != api.OK && len(got) != 0 {
				t.Errorf("%d told of, %d bytes: %d, error %d", n, size, len(got), e)
			}
		}
	}
}

// numbers is a row of numbers that looks like chance, the same ones each time.
type numbers uint64

func (n *numbers) below(limit int) int {
	*n = *n*6364136223846793005 + 1442695040888963407
	return int(uint64(*n) >> 33 % uint64(limit))
}

func (n *numbers) plain() api.Instr {
	k := kinds()[n.below(22)]
	i := api.Instr{Op: k.op}
	for _, field := range []string{"A", "B", "C"} {
		if k.has(field) {
			i = with(i, field, n.below(16))
		}
	}
	if k.has("Imm") {
		i.Imm = uint64(n.below(1<<30)) * uint64(n.below(1<<30)) << n.below(8)
	}
	return i
}

// P3.2: any plain program is encoded and decoded.
func TestAnyProgram(t *testing.T) {
	n := numbers(3)
	for range 2000 {
		code := make([]api.Instr, n.below(20))
		for i := range code {
			code[i] = n.plain()
		}
		turned(t, code)
	}
}

// P3.2: any bytes that are decoded are encoded to themselves; others are refused.
func TestAnyBytes(t *testing.T) {
	n := numbers(5)
	done, refused := 0, 0
	for range 5000 {
		code := make([]api.Instr, 1+n.below(4))
		for i := range code {
			code[i] = n.plain()
		}
		b := bytesOf(code)
		b[n.below(len(b))] = byte(n.below(24))
		got, e := instr.Decode(b)
		if e != api.OK {
			if len(got) != 0 {
				t.Fatalf("%v beside error %d", got, e)
			}
			refused++
			continue
		}
		done++
		if back, e := instr.Encode(got); e != api.OK || !bytes.Equal(back, b) {
			t.Fatalf("%v: decoded, and encoded: %v, %d", b, back, e)
		}
	}
	if done < 500 || refused < 500 {
		t.Errorf("%d decoded, %d refused", done, refused)
	}
}

// P2: what is handed in isn't changed, the memory behind its length neither; what is answered is new.
func TestApart(t *testing.T) {
	held := []api.Instr{{Op: instr.Set, A: 1, Imm: 258}, {Op: instr.Return, A: 1}, {Op: 99, A: 99}}
	kept := slices.Clone(held)
	b, _ := instr.Encode(held[:2])
	if !slices.Equal(held, kept) {
		t.Errorf("Encode turned what it was handed: %v", held)
	}
	again, _ := instr.Encode(held[:2])
	clear(again[:cap(again)])
	if !bytes.Equal(b, bytesOf(kept[:2])) {
		t.Errorf("two answers of Encode share memory: %v", b)
	}
	room := append(slices.Clone(b), "behind"...)
	whole := slices.Clone(room)
	code, _ := instr.Decode(room[:len(b)])
	if !bytes.Equal(room, whole) {
		t.Errorf("Decode turned what it was handed: %v", room)
	}
	clear(room)
	other, _ := instr.Decode(b)
	clear(other[:cap(other)])
	if !slices.Equal(code, kept[:2]) {
		t.Errorf("an answer of Decode shares memory: %v", code)
	}
}
