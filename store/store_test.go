package store

import (
	"bytes"
	"hash/crc32"
	"math/rand"
	"reflect"
	"strings"
	"testing"

	"ziggurat/api"
)

func entries() []api.Entry {
	return []api.Entry{{Name: "a", Text: "b"}, {Name: strings.Repeat("n", 20), Text: ""}, {Name: "\x00\xff", Text: strings.Repeat("long ", 4000)}, {Name: "x", Text: "\n\r\x00"}, {Name: "a", Text: "b"}}
}

func logOf(t *testing.T, l []api.Entry) ([]byte, []int) {
	t.Helper()
	var log []byte
	ends := []int{0}
	for _, e := range l {
		next, err := Append(log, e)
		if err != api.OK || !bytes.HasPrefix(next, log) {
			t.Fatal(e, err)
		}
		log, ends = next, append(ends, len(next))
	}
	return log, ends
}

func TestSum(t *testing.T) {
	if Sum([]byte("123456789")) != 0xCBF43926 || Sum(nil) != 0 {
		t.Fatal("example")
	}
	r := rand.New(rand.NewSource(1))
	for n := range 300 {
		b := make([]byte, n)
		r.Read(b)
		if Sum(b) != crc32.ChecksumIEEE(b) {
			t.Fatal(b)
		}
	}
}

func TestAppendAndRead(t *testing.T) {
	log, err := Append(nil, api.Entry{Name: "a", Text: "b"})
	if err != api.OK || !bytes.Equal(log[:7], []byte{3, 0, 0, 0, 1, 97, 98}) || len(log) != 11 {
		t.Fatal(log)
	}
	for i, e := range []api.Entry{{}, {Text: "x"}, {Name: strings.Repeat("n", 21)}, {Name: "n", Text: strings.Repeat("x", 20001)}} {
		if b, err := Append(log, e); err != api.ErrArg || b != nil {
			t.Fatal(i)
		}
	}
	all := entries()
	log, ends := logOf(t, all)
	got, n, err := Read(log)
	if err != api.OK || n != len(log) || !reflect.DeepEqual(got, all) {
		t.Fatal(n, err)
	}
	if l, n, err := Read(nil); l != nil || n != 0 || err != api.OK {
		t.Fatal("nothing")
	}
	junk, err := Append([]byte{1, 2, 3}, all[0])
	if err != api.OK || !bytes.Equal(junk[:3], []byte{1, 2, 3}) || len(junk) != 14 {
		t.Fatal("any log")
	}
	// Two appends to one log do not write into each other.
	room := make([]byte, ends[1], 1000)
	copy(room, log)
	one, _ := Append(room, api.Entry{Name: "b", Text: "1"})
	two, _ := Append(room, api.Entry{Name: "c", Text: "2"})
	if l, _, _ := Read(one); len(l) != 2 || l[1].Name != "b" {
		t.Fatal(l)
	}
	if l, _, _ := Read(two); len(l) != 2 || l[1].Name != "c" {
		t.Fatal(l)
	}
}

func TestCut(t *testing.T) {
	all := entries()
	all[2].Text = "short"
	log, ends := logOf(t, all)
	for cut := range len(log) + 1 {
		whole := 0
		for whole+1 < len(ends) && ends[whole+1] <= cut {
			whole++
		}
		want := api.ErrCut
		if ends[whole] == cut {
			want = api.OK
		}
		l, n, err := Read(log[:cut])
		if err != want || n != ends[whole] || len(l) != whole || whole > 0 && !reflect.DeepEqual(l, all[:whole]) {
			t.Fatal(cut, len(l), n, err)
		}
		mended := Repair(log[:cut])
		if !bytes.Equal(mended, log[:ends[whole]]) {
			t.Fatal("mended", cut)
		}
		more, _ := Append(mended, all[0])
		if l, _, err := Read(more); err != api.OK || len(l) != whole+1 {
			t.Fatal("goes on", cut)
		}
	}
}

func TestFlipped(t *testing.T) {
	all := entries()
	all[2].Text = "short"
	log, ends := logOf(t, all)
	for i := range log {
		at := 0
		for ends[at+1] <= i {
			at++
		}
		for _, x := range []byte{1, 128, 255} {
			bad := bytes.Clone(log)
			bad[i] ^= x
			l, n, err := Read(bad)
			inFrame := i < ends[at]+4
			if err == api.OK || !inFrame && err != api.ErrSum || n != ends[at] || len(l) != at {
				t.Fatal(i, x, len(l), n, err)
			}
		}
	}
}

func TestCanonical(t *testing.T) {
	r := rand.New(rand.NewSource(2))
	log, _ := logOf(t, entries())
	for range 500 {
		b := bytes.Clone(log[:r.Intn(len(log))])
		for range r.Intn(3) {
			if len(b) > 0 {
				b[r.Intn(len(b))] = byte(r.Intn(256))
			}
		}
		l, n, _ := Read(b)
		again, _ := logOf(t, l)
		if !bytes.Equal(again, b[:n]) {
			t.Fatal(n)
		}
	}
	// Payloads with a right sum that are no entry's.
	for _, payload := range []string{"", "\x00", "\x00text", "\x05abc", "\x15" + strings.Repeat("n", 30), "\x01a" + strings.Repeat("x", 20001)} {
		b := append(four(uint32(len(payload))), payload...)
		b = append(b, four(Sum(b))...)
		if l, n, err := Read(append(bytes.Clone(log), b...)); err != api.ErrSum || n != len(log) || len(l) != len(entries()) {
			t.Fatal(payload[:min(len(payload), 5)], err)
		}
	}
	if _, _, err := Read([]byte{255, 255, 255, 255, 1, 2, 3, 4, 5}); err != api.ErrCut {
		t.Fatal(err)
	}
}
