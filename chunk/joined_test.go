package chunk

import (
	"errors"
	"strings"
	"testing"

	"vellum/fault"
	"vellum/given"
)

var last = given.Chunk("IEND", "")

// join joins the data of chunks, of which the first one is begun.
func join(t *testing.T, from *given.Source) (*Reader, *Joined) {
	t.Helper()
	r := New(from)
	if err := r.Begin(anyType); err != nil {
		t.Fatal(err)
	}
	return r, Join(r, anyType)
}

// take takes so many bytes.
func take(from *Joined, count int) (string, error) {
	var out strings.Builder
	for range count {
		b, err := from.NextByte()
		if err != nil {
			return out.String(), err
		}
		out.WriteByte(b)
	}
	return out.String(), nil
}

func TestJoined(t *testing.T) {
	for _, c := range []struct {
		text, want string
		number     int
	}{
		{given.Chunk("IDAT", "abc") + last, "abc", 1},
		{given.Chunk("IDAT", "") + last, "", 1},
		{given.Chunk("IDAT", "a") + given.Chunk("IDAT", "bc") + last, "abc", 2},
		{given.Chunk("IDAT", "") + given.Chunk("IDAT", "ab") + given.Chunk("IDAT", "") + given.Chunk("IDAT", "") + given.Chunk("IDAT", "c") + given.Chunk("IDAT", "") + last, "abc", 6},
	} {
		from := &given.Source{Text: c.text, Behind: fault.Failed}
		r, joined := join(t, from)
		if got, err := take(joined, len(c.want)); got != c.want || err != nil {
			t.Errorf("%q: %q, %v", c.text, got, err)
		}
		// Asked again, it is still at its end, and asks for nothing.
		for range 2 {
			if err := joined.NoMore(); err != nil || r.Type() != "IEND" || r.Number() != c.number || from.Asked != len(c.text)-4 {
				t.Errorf("%q: %v, at %s, number %d, asked %d times", c.text, err, r.Type(), r.Number(), from.Asked)
			}
		}
		if err := r.Finish(); err != nil {
			t.Error(err)
		}
	}
}

// That a chunk has further data settles that there are too many: none is asked for.
func TestBytesTooMany(t *testing.T) {
	for _, c := range []struct {
		text  string
		taken int
	}{
		{given.Four(3) + "IDATab", 2},
		{given.Four(1) + "IDAT", 0},
		{given.Chunk("IDAT", "ab") + given.Four(1) + "IDAT", 2},
		{given.Chunk("IDAT", "ab") + given.Chunk("IDAT", "") + given.Four(1<<31-1) + "IDAT", 2},
	} {
		_, joined := join(t, &given.Source{Text: c.text, Behind: fault.Failed})
		if got, err := take(joined, c.taken); len(got) != c.taken || err != nil {
			t.Errorf("%q: %q, %v", c.text, got, err)
		}
		if err := joined.NoMore(); !isMalformed(err) {
			t.Errorf("%q: %v", c.text, err)
		}
	}
}

// Where a byte is wanted, a chunk of another type is told by its first letter
// that is another one.
func TestOtherChunkWhereAByteIsWanted(t *testing.T) {
	for _, letters := range []string{"t", "P", "IE", "IDa", "IDAt", "a"} {
		_, joined := join(t, &given.Source{Text: given.Chunk("IDAT", "ab") + given.Four(3) + letters, Behind: fault.Failed})
		if got, err := take(joined, 3); got != "ab" || !isMalformed(err) {
			t.Errorf("%s: %q, %v", letters, got, err)
		}
	}
}

func TestOtherChunkThatMayNotStandBehind(t *testing.T) {
	r := New(&given.Source{Text: given.Chunk("IDAT", "") + given.Four(0) + "P", Behind: fault.Failed})
	r.Begin(anyType)
	if err := Join(r, func(letters string) bool { return letters != "P" }).NoMore(); !isMalformed(err) {
		t.Errorf("%v", err)
	}
}

// The end of the source is no end of the joined data: a chunk must follow.
func TestJoinedThatEndsOrIsMalformed(t *testing.T) {
	two := given.Chunk("IDAT", "ab") + given.Chunk("IDAT", "c")
	wrong := []byte(given.Chunk("IDAT", "ab"))
	wrong[len(wrong)-1] ^= 1
	ask := func(text string, behind error) error {
		_, joined := join(t, &given.Source{Text: text, Behind: behind})
		if _, err := take(joined, 3); err != nil {
			return err
		}
		return joined.NoMore()
	}
	for _, text := range []string{two, two[:len(two)-1], two[:20], two + "\x00\x00", two + "\x00\x00\x00\x00IEN", two + "\x80", two + "\x00\x00\x00\x00IEnD", string(wrong) + two} {
		if err := ask(text, fault.End); !isMalformed(err) {
			t.Errorf("%q: %v", text, err)
		}
	}
	for n := 8; n <= len(two)+7; n++ {
		if err := ask((two + last)[:n], fault.Failed); !errors.Is(err, fault.Failed) {
			t.Errorf("it fails behind %d bytes: %v", n, err)
		}
	}
}
