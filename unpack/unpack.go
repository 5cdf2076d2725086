// Package unpack: packed bytes and wrapped rows, out of any source of bytes:
// see DOC.md, 'Packed bytes'.
package unpack

import (
	"vellum/bitrow"
	"vellum/fault"
	"vellum/ring"
	"vellum/source"
)

// Put takes the bytes that are put out, one after the other. With an error
// nothing further is unpacked.
type Put func(b byte) error

// Packed unpacks the packed bytes at the beginning of a source, with distances
// up to window, and at most so many bytes. It answers how many bytes it took.
func Packed(from source.Bytes, window, most int, put Put) (int, error) {
	bits := bitrow.New(from)
	u := newUnpacker(bits, window, most, put)
	if err := u.blocks(); err != nil {
		return 0, err
	}
	return bits.Taken(), nil
}

type unpacker struct {
	bits   *bitrow.Reader
	window *ring.Ring[byte]
	left   int  // how many bytes may still be put out
	all    bool // whether all of them must be
	put    Put
	fixed  *tables // nil up to the first block of sort 1
}

func newUnpacker(bits *bitrow.Reader, window, most int, put Put) *unpacker {
	return &unpacker{bits: bits, window: ring.New[byte](window), left: most, put: put}
}

// blocks unpacks all blocks, up to the last one.
func (u *unpacker) blocks() error {
	for number := 0; ; number++ {
		last, err := u.block()
		if err != nil {
			return fault.At("block", number, fault.At("bit", u.bits.Position(), err))
		}
		if last {
			return nil
		}
	}
}

// block unpacks one block, and says whether it is the last one.
func (u *unpacker) block() (bool, error) {
	last, err := u.bits.Bit()
	if err != nil {
		return false, err
	}
	sort, err := u.bits.Number(2)
	if err != nil {
		return false, err
	}
	switch sort {
	case 0:
		err = u.stored(last == 1)
	case 1:
		err = u.withFixedCodes()
	case 2:
		err = u.withOwnCodes()
	default:
		err = fault.NewMalformed("no block is of sort 3")
	}
	if err == nil && last == 1 {
		err = u.enough(0)
	}
	return last == 1, err
}

// stored puts out the bytes of a block of sort 0.
func (u *unpacker) stored(last bool) error {
	u.bits.Align()
	count, err := u.readCount(last)
	if err != nil {
		return err
	}
	for range count {
		b, err := u.bits.Number(8)
		if err != nil {
			return err
		}
		if err := u.putByte(byte(b)); err != nil {
			return err
		}
	}
	return nil
}

// readCount reads how many bytes a block of sort 0 has. Whether there may be as
// many is told ahead of all that follows.
func (u *unpacker) readCount(last bool) (int, error) {
	count, err := u.bits.Number(16)
	if err != nil {
		return 0, err
	}
	if err := u.room(count); err != nil {
		return 0, err
	}
	if last {
		if err := u.enough(count); err != nil {
			return 0, err
		}
	}
	return count, u.readTurned(count)
}

// readTurned reads a number of 16 bits, in which each bit must be the other one.
func (u *unpacker) readTurned(count int) error {
	for range 2 {
		turned, err := u.bits.Number(8)
		if err != nil {
			return err
		}
		if byte(turned) != ^byte(count) {
			return fault.NewMalformed("the count of bytes and its turned-over number do not fit")
		}
		count >>= 8
	}
	return nil
}

func (u *unpacker) withFixedCodes() error {
	// They are kept, since there may be a great many of very short blocks.
	if u.fixed == nil {
		u.fixed = fixedTables()
	}
	return u.symbols(u.fixed)
}

func (u *unpacker) withOwnCodes() error {
	own, err := readTables(u.bits)
	if err != nil {
		return err
	}
	return u.symbols(own)
}

// symbols puts out what the symbols stand for, up to the one that ends the block.
func (u *unpacker) symbols(by *tables) error {
	for {
		literal, err := by.literals.Read(u.bits)
		if err != nil {
			return err
		}
		switch literal.kind {
		case aByte:
			err = u.single(byte(literal.least))
		case aLength:
			err = u.again(literal, by)
		case anEnd:
			return nil
		default:
			err = fault.NewMalformed("a literal symbol that stands for nothing")
		}
		if err != nil {
			return err
		}
	}
}

func (u *unpacker) single(b byte) error {
	if err := u.room(1); err != nil {
		return err
	}
	return u.putByte(b)
}

// again puts out bytes of the window once more: as many as a literal symbol
// says, from so far back as the distance symbol says that follows.
func (u *unpacker) again(literal meaning, by *tables) error {
	count, err := u.amount(literal, u.room)
	if err != nil {
		return err
	}
	symbol, err := by.distances.Read(u.bits)
	if err != nil {
		return err
	}
	if symbol.kind != aDistance {
		return fault.NewMalformed("a distance symbol that stands for nothing")
	}
	back, err := u.amount(symbol, u.reach)
	if err != nil {
		return err
	}
	for range count {
		b, _ := u.window.Back(back)
		if err := u.putByte(b); err != nil {
			return err
		}
	}
	return nil
}

// amount reads how much a symbol stands for in all, which must fit. So must the
// least that it may be: that may settle it ahead of the number that follows.
func (u *unpacker) amount(symbol meaning, fits func(amount int) error) (int, error) {
	if err := fits(symbol.least); err != nil {
		return 0, err
	}
	more, err := u.bits.Number(symbol.extra)
	if err != nil {
		return 0, err
	}
	return symbol.least + more, fits(symbol.least + more)
}

// reach says whether there is a byte so far back.
func (u *unpacker) reach(back int) error {
	if _, held := u.window.Back(back); !held {
		return fault.NewMalformed("a distance that reaches too far back")
	}
	return nil
}

// room says whether so many further bytes may be put out. It is asked as soon
// as it is known how many there will be.
func (u *unpacker) room(count int) error {
	if count > u.left {
		return fault.NewMalformed("more bytes than there may be")
	}
	return nil
}

// enough says whether there will be as many bytes as there must be, if so many
// further ones are the last.
func (u *unpacker) enough(count int) error {
	if u.all && count < u.left {
		return fault.NewMalformed("fewer bytes than there must be")
	}
	return nil
}

func (u *unpacker) putByte(b byte) error {
	u.left--
	u.window.Add(b)
	return u.put(b)
}
