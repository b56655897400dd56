package base

import (
	"bytes"

	"thimble/api"
	"thimble/dev"
	"thimble/ghost"
	"thimble/journal"
	"thimble/reg"
	"thimble/tree"
)

// Job is a Commit of images: they wait in the journal till all of them are there
// and the register holds its mark, and go home behind that. Its zero value has no
// device.
type Job struct {
	device   *dev.Device
	register *reg.Register
	log      *ghost.Log
	plan     api.Plan

	blocks []int    // whose homes the images go, in the order in which they were put
	images [][]byte // as they were put: the mark is of these, whatever the journal reads by then
	homes  []func() api.Errno

	begun bool               // Go was called
	rest  []func() api.Errno // what is to be done yet
	fault api.Errno          // of the first of these that failed
}

// NewJob makes a job without images, of what the register holds.
func NewJob(d *dev.Device, r *reg.Register, l *ghost.Log) (*Job, api.Errno) {
	if d == nil || r == nil {
		return nil, api.ErrNone
	}
	_, p, e := held(d, r)
	if e != api.OK {
		return nil, e
	}
	return &Job{device: d, register: r, log: l, plan: p}, api.OK
}

// made tells whether there is a job, with a device.
func (j *Job) made() bool { return j != nil && j.device != nil }

// Put lays one more image into the journal. If that fails there is none more.
func (j *Job) Put(block int, b []byte) api.Errno {
	switch {
	case !j.made():
		return api.ErrNone
	case j.begun:
		return api.ErrBusy
	case block < 0 || block >= j.plan.Head || len(b) != api.Block:
		return api.ErrArg
	case len(j.images) >= j.plan.Budget:
		return api.ErrFull
	}
	at := j.plan.Journal + len(j.images)
	if e := j.device.Write(at, b); e != api.OK {
		return e
	}
	digest := tree.Digest(j.log, block, b)
	j.blocks = append(j.blocks, block)
	j.images = append(j.images, bytes.Clone(b))
	j.homes = append(j.homes, func() api.Errno { return j.bring(at, block, digest) })
	return api.OK
}

// Go does the next thing that is to be done, and tells whether it was the last.
func (j *Job) Go(next api.State) (bool, api.Errno) {
	if !j.made() {
		return false, api.ErrNone
	}
	if !j.begun {
		j.begin(next)
	}
	if j.fault == api.OK && len(j.rest) > 0 {
		j.fault = j.rest[0]()
		j.rest = j.rest[1:]
	}
	if j.fault != api.OK {
		return false, j.fault
	}
	return len(j.rest) == 0, api.OK
}

// begin lays down what is to be done. No image goes home ahead of the register's
// first Write: till then a Boot finds what was held, and from then on the whole
// journal.
func (j *Job) begin(next api.State) {
	j.begun = true
	head, _ := journal.Head(next.Version, j.blocks, j.plan.Budget) // no error: Put took no others
	for i, b := range head {
		at := j.plan.Head + i
		j.rest = append(j.rest, func() api.Errno { return j.device.Write(at, b) })
	}
	j.rest = append(j.rest, j.device.Flush, func() api.Errno { return j.mark(next, head) })
	j.rest = append(j.rest, j.homes...)
	j.rest = append(j.rest, j.device.Flush, func() api.Errno { return j.register.Write(settled(next)) })
}

// mark lets the register hold next, and what closes the journal.
func (j *Job) mark(next api.State, head [][]byte) api.Errno {
	next.Busy, next.Mark = true, journal.Mark(nil, head, j.images)
	if e := j.register.Write(next); e != api.OK {
		return e
	}
	journal.Mark(j.log, head, j.images) // not ahead of this: of what is refused nothing is noted
	return api.OK
}

// bring writes home what a block of the journal reads, if it is what was put
// there: the register's mark covers what was put alone.
func (j *Job) bring(at, block int, digest [32]byte) api.Errno {
	b, e := j.device.Read(at)
	if e != api.OK {
		return e
	}
	if !stands(j.log, block, b, digest) {
		return api.ErrCorrupt
	}
	return j.device.Write(block, b)
}
