package base

import (
	"bytes"

	"thimble/api"
	"thimble/count"
	"thimble/gcm"
	"thimble/ghost"
	"thimble/mac"
	"thimble/row"
)

// pageSize is the bytes of a page's number, as it goes along with the page.
const pageSize = 4

// Keys seal pages, and open them. The zero value is that of an empty master key,
// without a log.
type Keys struct {
	master []byte
	wide   bool
	log    *ghost.Log
	boxes  map[uint32]*gcm.Box // by their epochs, those that were asked for
}

// NewKeys makes the keys of a master key.
func NewKeys(master []byte, wide bool, l *ghost.Log) *Keys {
	return &Keys{master: bytes.Clone(master), wide: wide, log: l}
}

// box tells the box of an epoch. It is kept, as its tables take long to make.
func (k *Keys) box(epoch uint32) *gcm.Box {
	if box, there := k.boxes[epoch]; there {
		return box
	}
	box, _ := gcm.New(mac.Key(k.master, epoch, k.wide)) // no error: mac makes keys of both lengths
	if k.boxes == nil {
		k.boxes = make(map[uint32]*gcm.Box)
	}
	k.boxes[epoch] = box
	return box
}

// Seal tells the block that a page comes to under x, and notes it.
func (k *Keys) Seal(x api.Entry, page int, data []byte) []byte {
	if k == nil {
		return nil
	}
	var plain [api.Page]byte
	copy(plain[:], data)
	t := along(x, page)
	t.Sealed = k.box(x.Epoch).Seal(t.Nonce, t.Aad, plain[:])
	k.log.Sealed(t)
	return t.Sealed
}

// Open tells what was sealed as that page under x, and notes it. Of what is
// refused nothing is noted.
func (k *Keys) Open(x api.Entry, page int, sealed []byte) ([]byte, api.Errno) {
	if k == nil {
		return nil, api.ErrNone
	}
	t := along(x, page)
	plain, e := k.box(x.Epoch).Open(t.Nonce, t.Aad, sealed)
	if e != api.OK {
		return nil, e
	}
	t.Sealed = sealed
	k.log.Opened(t)
	return plain, api.OK
}

// along tells all of a tuple but what was sealed. Of the page's number the lowest
// 32 bits count, as of a block's number in its digest.
func along(x api.Entry, page int) api.Tuple {
	number, _ := row.Put(nil, uint64(uint32(page)), pageSize) // no error: they hold every uint32
	return api.Tuple{Epoch: x.Epoch, Nonce: count.Nonce(x), Aad: number}
}
