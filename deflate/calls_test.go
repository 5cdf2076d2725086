package deflate

import (
	"math/rand"
	"strings"
	"sync"
	"testing"

	"vellum/api"
)

// This file has what P1 and P2 promise of both calls.

type arguments struct {
	s            string
	window, most int
}

// answers is all that both calls tell.
type answers struct {
	out     string
	taken   int
	e       api.Errno
	row     string
	rowFail api.Errno
}

func answer(a arguments) answers {
	out, taken, e := Inflate(a.s, a.window, a.most)
	row, rowFail := Unwrap(a.s, a.most)
	return answers{out, taken, e, row, rowFail}
}

// anyArguments gives texts of any bytes with any numbers.
func anyArguments() []arguments {
	r := rand.New(rand.NewSource(8))
	numbers := []int{-1 << 63, -32768, -1, 0, 1, 2, 5, 100, 256, 32767, 32768, 32769, 65536, 16777215, 16777216, 16777217, 1<<63 - 1}
	var list []arguments
	for i, s := range manyPacked(1500) {
		row := rowOf(s, "")
		for _, text := range []string{s, row, mutated(r, row)} {
			list = append(list, arguments{text, 32768, 16777216}, arguments{text, numbers[i%len(numbers)], numbers[r.Intn(len(numbers))]})
		}
	}
	for range 3000 {
		b := make([]byte, r.Intn(80))
		r.Read(b)
		list = append(list, arguments{string(b), 32768, 16777216}, arguments{"\x78\x9c" + string(b), 32768, len(b)})
	}
	for _, piece := range []string{"\x00", "\xff", "\x02", "\x04", "\xaa", "\x02\x08\x20\x80\x00", "\x00\x00\x00\xff\xff"} {
		list = append(list, arguments{strings.Repeat(piece, 20000), 32768, 16777216})
	}
	return list
}

func TestCallsEndAndAnswerNothingWithAnError(t *testing.T) {
	for _, a := range anyArguments() {
		got := answer(a)
		if got.e != api.OK && got.e != api.ErrLimit && got.e != api.ErrMalformed {
			t.Errorf("P5: Inflate of %x, %d, %d: error %d", a.s, a.window, a.most, got.e)
		}
		if got.e != api.OK && (got.out != "" || got.taken != 0) {
			t.Errorf("P1: Inflate of %x, %d, %d: %d bytes, %d, beside the error %d", a.s, a.window, a.most, len(got.out), got.taken, got.e)
		}
		if got.rowFail != api.OK && got.row != "" {
			t.Errorf("P1: Unwrap of %x, %d: %d bytes beside the error %d", a.s, a.most, len(got.row), got.rowFail)
		}
		badMost := a.most < 0 || a.most > 16777216
		if badLimit := badMost || a.window < 1 || a.window > 32768; badLimit != (got.e == api.ErrLimit) {
			t.Errorf("P1: Inflate of %x, %d, %d: error %d", a.s, a.window, a.most, got.e)
		}
		if badMost != (got.rowFail == api.ErrLimit) {
			t.Errorf("P1: Unwrap of %x, %d: error %d", a.s, a.most, got.rowFail)
		}
	}
}

func TestCallsHangOnTheirArgumentsAlone(t *testing.T) {
	list := anyArguments()
	first := make([]answers, len(list))
	for i, a := range list {
		first[i] = answer(a)
	}
	for i := len(list) - 1; i >= 0; i-- {
		if again := answer(list[i]); again != first[i] {
			t.Errorf("P2: %x, %d, %d: answers otherwise when called again", list[i].s, list[i].window, list[i].most)
		}
	}
	var workers sync.WaitGroup
	for range 4 {
		workers.Go(func() {
			for i, a := range list {
				if again := answer(a); again != first[i] {
					t.Errorf("P2: %x, %d, %d: answers otherwise beside others", a.s, a.window, a.most)
				}
			}
		})
	}
	workers.Wait()
}

// A piece of a longer text answers as a text of its own with the same bytes.
func TestCallsLookAtTheirTextOnly(t *testing.T) {
	for _, a := range anyArguments() {
		piece := a
		piece.s = ("\x01\x00" + a.s + "\x00\x00\xff")[2 : 2+len(a.s)]
		if answer(piece) != answer(a) {
			t.Errorf("P2: %x: another answer inside a longer text", a.s)
		}
	}
}

func FuzzInflate(f *testing.F) {
	for _, c := range ordinary() {
		f.Add(c.packed, 32768, 5000)
	}
	f.Fuzz(func(t *testing.T, s string, window, most int) {
		if window < 1 || window > 32768 || most < 0 || most > 100000 || len(s) > 3000 {
			return
		}
		wantOut, wantTaken, ok := inflateByWords(s, window, most)
		out, taken, e := Inflate(s, window, most)
		if out != wantOut || taken != wantTaken || ok != (e == api.OK) {
			t.Errorf("P5: %x, %d, %d: %d bytes, %d, %d; by words %d bytes, %d, %v", s, window, most, len(out), taken, e, len(wantOut), wantTaken, ok)
		}
	})
}
