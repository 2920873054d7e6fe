package delta_test

import (
	"bytes"
	"math"
	"math/rand"
	"slices"
	"testing"

	"trove/api"
	"trove/delta"
)

func cut(from, n int) delta.Op { return delta.Op{Copy: true, From: from, N: n} }

func data(s string) delta.Op { return delta.Op{Data: []byte(s)} }

// sameOps: an empty list of bytes and none are the same.
func sameOps(a, b []delta.Op) bool {
	return slices.EqualFunc(a, b, func(x, y delta.Op) bool {
		return x.Copy == y.Copy && x.From == y.From && x.N == y.N && bytes.Equal(x.Data, y.Data)
	})
}

// slowSize reads a size off d's front, and answers what is behind it.
func slowSize(d []byte) (v int, rest []byte, err api.Errno) {
	end := slices.IndexFunc(d, func(c byte) bool { return c < 0x80 })
	switch {
	case end >= 9 || end < 0 && len(d) >= 9:
		return 0, nil, api.ErrLong
	case end < 0:
		return 0, nil, api.ErrShort
	}
	for k := end; k >= 0; k-- {
		v = v*128 + int(d[k]%128)
	}
	return v, d[end+1:], api.OK
}

// slowSteps reads a step by itself, and the rest by a call of its own.
func slowSteps(d []byte) ([]delta.Op, api.Errno) {
	if len(d) == 0 {
		return nil, api.OK
	}
	head, rest := d[0], d[1:]
	if head == 0 {
		return nil, api.ErrForm
	}
	o, used, ok := slowStep(head, rest)
	if !ok {
		return nil, api.ErrShort
	}
	l, err := slowSteps(rest[used:])
	if err != api.OK {
		return nil, err
	}
	return append([]delta.Op{o}, l...), api.OK
}

func slowStep(head byte, rest []byte) (o delta.Op, used int, ok bool) {
	if head < 128 {
		if len(rest) < int(head) {
			return o, 0, false
		}
		return delta.Op{Data: rest[:head]}, int(head), true
	}
	var field [7]int
	for k := range field {
		if head&(1<<k) == 0 {
			continue
		}
		if used == len(rest) {
			return o, 0, false
		}
		field[k] = int(rest[used])
		used++
	}
	o = cut(field[0]+field[1]*0x100+field[2]*0x10000+field[3]*0x1000000, field[4]+field[5]*0x100+field[6]*0x10000)
	if o.N == 0 {
		o.N = 0x10000
	}
	return o, used, true
}

func slowParse(d []byte) (base, out int, l []delta.Op, err api.Errno) {
	base, rest, err := slowSize(d)
	if err != api.OK {
		return 0, 0, nil, err
	}
	out, rest, err = slowSize(rest)
	if err != api.OK {
		return 0, 0, nil, err
	}
	if l, err = slowSteps(rest); err != api.OK {
		return 0, 0, nil, err
	}
	return base, out, l, api.OK
}

// slowApply is for steps that make little: it makes it all first, and asks then.
func slowApply(base, d []byte, most int) ([]byte, api.Errno) {
	size, out, l, err := slowParse(d)
	switch {
	case err != api.OK:
		return nil, err
	case size != len(base):
		return nil, api.ErrForm
	case out > most:
		return nil, api.ErrLong
	}
	var made []byte
	for _, o := range l {
		made = append(made, o.Data...)
		for k := range o.N {
			if o.From+k >= len(base) {
				return nil, api.ErrForm
			}
			made = append(made, base[o.From+k])
		}
	}
	if len(made) != out {
		return nil, api.ErrForm
	}
	return made, api.OK
}

// checkDelta holds Sizes, Parse and Apply of any bytes against the model; and Print, if it can say what they say.
func checkDelta(t *testing.T, base, d []byte, mosts ...int) {
	t.Helper()
	wantBase, rest, wantErr := slowSize(d)
	wantOut := 0
	if wantErr == api.OK {
		if wantOut, _, wantErr = slowSize(rest); wantErr != api.OK {
			wantBase = 0
		}
	}
	if b, o, err := delta.Sizes(d); b != wantBase || o != wantOut || err != wantErr {
		t.Fatalf("Sizes(%x): %d, %d, %v, not %d, %d, %v", d, b, o, err, wantBase, wantOut, wantErr)
	}
	wantBase, wantOut, want, wantErr := slowParse(d)
	b, o, l, err := delta.Parse(d)
	if b != wantBase || o != wantOut || !sameOps(l, want) || err != wantErr {
		t.Fatalf("Parse(%x): %d, %d, %v, %v, not %d, %d, %v, %v", d, b, o, l, err, wantBase, wantOut, want, wantErr)
	}
	for _, most := range mosts {
		want, wantErr := slowApply(base, d, most)
		if out, err := delta.Apply(base, d, most); !bytes.Equal(out, want) || err != wantErr {
			t.Fatalf("Apply(%x, %x, %d): %x, %v, not %x, %v", base, d, most, out, err, want, wantErr)
		}
	}
	if wantErr == api.OK && !slices.ContainsFunc(l, func(o delta.Op) bool { return o.N > 0x10000 }) {
		if again := checkPrint(t, b, o, l); len(again) > len(d) {
			t.Fatalf("Print(%d, %d, %v): %x; %x has fewer bytes", b, o, l, again, d)
		}
	}
}

// shortest: of all forms of a step that tell it, the one of the fewest bytes; there is just one.
func shortest(t *testing.T, o delta.Op) []byte {
	t.Helper()
	if !o.Copy {
		return append([]byte{byte(len(o.Data))}, o.Data...)
	}
	field := [7]byte{byte(o.From), byte(o.From >> 8), byte(o.From >> 16), byte(o.From >> 24), byte(o.N), byte(o.N >> 8), byte(o.N >> 16)}
	var best []byte
	for head := 0x80; head < 0x100; head++ {
		form := []byte{byte(head)}
		for k, c := range field {
			if head&(1<<k) != 0 {
				form = append(form, c)
			}
		}
		x, _, ok := slowStep(form[0], form[1:])
		if !ok || !sameOps([]delta.Op{x}, []delta.Op{o}) {
			continue
		}
		if best != nil && len(form) == len(best) {
			t.Fatalf("%v: %x and %x", o, form, best)
		}
		if best == nil || len(form) < len(best) {
			best = form
		}
	}
	return best
}

// sizeOf: a size as few bytes say it.
func sizeOf(v int) []byte {
	if v < 128 {
		return []byte{byte(v)}
	}
	return append([]byte{byte(v%128) + 128}, sizeOf(v/128)...)
}

// checkPrint holds Print of what may be against the shortest forms, and has Parse tell it again.
func checkPrint(t *testing.T, base, out int, l []delta.Op) []byte {
	t.Helper()
	want := append(sizeOf(base), sizeOf(out)...)
	for _, o := range l {
		want = append(want, shortest(t, o)...)
	}
	d, err := delta.Print(base, out, l)
	if !bytes.Equal(d, want) || err != api.OK {
		t.Fatalf("Print(%d, %d, %v): %x, %v, not %x", base, out, l, d, err, want)
	}
	b, o, again, err := delta.Parse(d)
	if b != base || o != out || !sameOps(again, l) || err != api.OK {
		t.Fatalf("Parse(Print(%d, %d, %v)): %d, %d, %v, %v", base, out, l, b, o, again, err)
	}
	return d
}

// checkMake says what P1302 promises of the delta of any bytes, and answers it.
func checkMake(t *testing.T, base, target []byte, effort int) []byte {
	t.Helper()
	d := delta.Make(base, target, effort)
	if len(d) == 0 {
		t.Fatalf("Make of %d, %d bytes, %d: nothing", len(base), len(target), effort)
	}
	for _, most := range []int{len(target), math.MaxInt} {
		if out, err := delta.Apply(base, d, most); !bytes.Equal(out, target) || err != api.OK {
			t.Fatalf("Make of %d, %d bytes, %d: %d bytes, %v", len(base), len(target), effort, len(out), err)
		}
	}
	size, out, l, err := delta.Parse(d)
	if size != len(base) || out != len(target) || err != api.OK {
		t.Fatalf("Make of %d, %d bytes, %d: %d, %d, %v", len(base), len(target), effort, size, out, err)
	}
	if again, err := delta.Print(size, out, l); !bytes.Equal(again, d) || err != api.OK {
		t.Fatalf("Make of %d, %d bytes, %d: Print says it otherwise, %v", len(base), len(target), effort, err)
	}
	return d
}

// insert: b with more at one place.
func insert(b []byte, at int, more []byte) []byte {
	return slices.Concat(b[:at], more, b[at:])
}

// checkInsert says what it promises besides of bytes put in at one place.
func checkInsert(t *testing.T, base []byte, at int, more []byte, effort int) {
	t.Helper()
	target := insert(base, at, more)
	if d := checkMake(t, base, target, effort); len(d) > 60+len(target)/3000 {
		t.Errorf("%x put in at %d of %d bytes, %d: %d bytes", more, at, len(base), effort, len(d))
	}
}

// noise: random bytes of so many letters.
func noise(random *rand.Rand, n, letters int) []byte {
	b := make([]byte, n)
	for k := range b {
		b[k] = byte(random.Intn(letters))
	}
	return b
}

// period: a row of bytes again and again.
func period(row string, n int) []byte {
	return bytes.Repeat([]byte(row), n/len(row)+1)[:n]
}
