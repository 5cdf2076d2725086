package chunk

import (
	"errors"
	"strings"
	"testing"

	"vellum/fault"
	"vellum/given"
)

func isMalformed(err error) bool {
	var malformed *fault.Malformed
	return errors.As(err, &malformed)
}

// readAll reads the bytes of a source up to its end.
func readAll(from interface{ NextByte() (byte, error) }) (string, error) {
	var out strings.Builder
	for {
		b, err := from.NextByte()
		if err != nil {
			return out.String(), err
		}
		out.WriteByte(b)
	}
}

func TestOpen(t *testing.T) {
	const eight = "\x89PNG\r\n\x1a\n"
	from := &given.Source{Text: eight, Behind: fault.Failed}
	if err := New(from).Open(); err != nil || from.Asked != 8 {
		t.Errorf("%v, asked %d times", err, from.Asked)
	}
	for i := range 8 {
		b := []byte(eight[:i+1])
		b[i] ^= 0x20
		if err := New(&given.Source{Text: string(b), Behind: fault.Failed}).Open(); !isMalformed(err) {
			t.Errorf("%x: %v", b, err)
		}
	}
}

// Each part of a chunk is asked for when it is wanted, and not a byte ahead.
func TestChunksAreReadWithoutAskingAhead(t *testing.T) {
	from := &given.Source{Text: given.Chunk("IHDR", "data") + given.Chunk("teXt", ""), Behind: fault.Failed}
	r := New(from)
	if r.Number() != -1 {
		t.Errorf("ahead of all chunks: number %d", r.Number())
	}
	see := func(err error, number int, name string, left, asked int) {
		t.Helper()
		if err != nil || r.Number() != number || r.Type() != name || r.Left() != left || from.Asked != asked {
			t.Errorf("%v, number %d, type %s, %d left, asked %d times; want %d, %s, %d, %d", err, r.Number(), r.Type(), r.Left(), from.Asked, number, name, left, asked)
		}
	}
	see(r.Begin(), 0, "IHDR", 4, 8)
	if r.Small() {
		t.Error("IHDR begins with a capital")
	}
	for i := range 2 {
		b, err := r.NextByte()
		see(err, 0, "IHDR", 3-i, 9+i)
		if b != "data"[i] {
			t.Errorf("byte %d is %q", i, b)
		}
	}
	see(r.Finish(), 0, "IHDR", 0, 16)
	see(r.Begin(), 1, "teXt", 0, 24)
	if !r.Small() {
		t.Error("teXt begins with a small letter")
	}
	if _, err := r.NextByte(); !errors.Is(err, fault.End) || from.Asked != 24 {
		t.Errorf("data of a chunk without data: %v, asked %d times", err, from.Asked)
	}
	see(r.Finish(), 1, "teXt", 0, 28)
	if err := r.End(); !errors.Is(err, fault.Failed) {
		t.Errorf("a source that fails behind the last chunk: %v", err)
	}
}

func TestNextGoesOnWhateverWasRead(t *testing.T) {
	for read := range 5 {
		r := New(&given.Source{Text: given.Chunk("abCd", "data") + given.Chunk("IEND", ""), Behind: fault.End})
		r.Begin()
		for range read {
			r.NextByte()
		}
		if err := r.Next(); err != nil || r.Type() != "IEND" || r.Number() != 1 {
			t.Errorf("behind %d bytes of data: %v, type %s, number %d", read, err, r.Type(), r.Number())
		}
		if err := r.Finish(); err != nil {
			t.Error(err)
		}
		if err := r.End(); err != nil {
			t.Error(err)
		}
	}
}

func TestChunkThatEndsOrFailsAnywhere(t *testing.T) {
	text := given.Chunk("abCd", "data")
	for n := range len(text) {
		read := func(behind error) error {
			r := New(&given.Source{Text: text[:n], Behind: behind})
			if err := r.Begin(); err != nil {
				return err
			}
			return r.Finish()
		}
		if err := read(fault.End); !isMalformed(err) {
			t.Errorf("it ends behind %d bytes: %v", n, err)
		}
		if err := read(fault.Failed); !errors.Is(err, fault.Failed) {
			t.Errorf("it fails behind %d bytes: %v", n, err)
		}
	}
}

// What is malformed is told as soon as it is read: the source fails right behind.
func TestMalformedIsToldAtOnce(t *testing.T) {
	for _, head := range []string{"\x80", "\xff", "\x00\x00\x00\x00@", "\x00\x00\x00\x00[", "\x00\x00\x00\x00a`", "\x00\x00\x00\x00A{", "\x00\x00\x00\x00ABc", "\x00\x00\x00\x00AB1", "\x00\x00\x00\x00ABC\xc1", "\x00\x00\x00\x00ABC!"} {
		if err := New(&given.Source{Text: head, Behind: fault.Failed}).Begin(); !isMalformed(err) {
			t.Errorf("%q: %v", head, err)
		}
	}
	text := given.Chunk("abCd", "data")
	for i := len(text) - 4; i < len(text); i++ {
		b := []byte(text[:i+1])
		b[i] ^= 1
		r := New(&given.Source{Text: string(b), Behind: fault.Failed})
		r.Begin()
		if err := r.Finish(); !isMalformed(err) {
			t.Errorf("another sum, at byte %d: %v", i, err)
		}
	}
}

func TestJoined(t *testing.T) {
	last := given.Chunk("IEND", "")
	for _, c := range []struct {
		text, want string
		number     int
	}{
		{given.Chunk("IDAT", "abc") + last, "abc", 1},
		{given.Chunk("IDAT", "") + last, "", 1},
		{given.Chunk("IDAT", "a") + given.Chunk("IDAT", "bc") + last, "abc", 2},
		{given.Chunk("IDAT", "") + given.Chunk("IDAT", "ab") + given.Chunk("IDAT", "") + given.Chunk("IDAT", "") + given.Chunk("IDAT", "c") + given.Chunk("IDAT", "") + last, "abc", 6},
	} {
		r := New(&given.Source{Text: c.text, Behind: fault.Failed})
		r.Begin()
		joined := Join(r)
		got, err := readAll(joined)
		if got != c.want || !errors.Is(err, fault.End) || r.Type() != "IEND" || r.Number() != c.number {
			t.Errorf("%q: %q, %v, at %s, number %d", c.text, got, err, r.Type(), r.Number())
		}
		// Asked again, it is still at its end.
		if _, err := joined.NextByte(); !errors.Is(err, fault.End) || r.Number() != c.number {
			t.Errorf("%q: %v, number %d", c.text, err, r.Number())
		}
		if err := r.Finish(); err != nil {
			t.Error(err)
		}
	}
}

// The end of the source is no end of the joined data: a chunk must follow.
func TestJoinedThatEndsOrIsMalformed(t *testing.T) {
	two := given.Chunk("IDAT", "ab") + given.Chunk("IDAT", "c")
	wrong := []byte(given.Chunk("IDAT", "ab"))
	wrong[len(wrong)-1] ^= 1
	for _, text := range []string{two, two[:len(two)-1], two + "\x00\x00", two + "\x00\x00\x00\x00IEN", two + "\x80", two + "\x00\x00\x00\x00IEnD", string(wrong) + two} {
		r := New(&given.Source{Text: text, Behind: fault.End})
		r.Begin()
		if _, err := readAll(Join(r)); !isMalformed(err) {
			t.Errorf("%q: %v", text, err)
		}
	}
	r := New(&given.Source{Text: two, Behind: fault.Failed})
	r.Begin()
	if got, err := readAll(Join(r)); got != "abc" || !errors.Is(err, fault.Failed) {
		t.Errorf("%q, %v", got, err)
	}
}
