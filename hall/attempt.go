package hall

import (
	"chandlery/api"
	"chandlery/obj"
	"chandlery/slot"
	"chandlery/tag"
	"chandlery/word"
)

// attempt is what a Call knows of the attempt that it makes: from the record that holds to one of its own that is to hold.
type attempt struct {
	held    uint64 // the head, as it was found
	copier  *slot.Copier
	record  []uint64 // first what was copied, then what is to be laid
	asker   asker    // whom it hears
	askers  []asker  // whose askings aren't done in the record
	entries []Entry  // what it does to the object, if it succeeds
	scan    *tag.Scan
	layer   *slot.Layer
}

// asker is a worker that asks for help: by which number, and what.
type asker struct {
	worker int
	number uint64
	op     api.Op
}

// look: which record holds?
func (c *Call) look() {
	c.held = c.hall.m.Load(c.hall.frame.Head())
	c.next = (*Call).hold
}

// hold: the others are told that the record is held, so that its reference isn't used anew.
func (c *Call) hold() {
	c.hall.m.Store(c.hall.frame.Held(c.worker), c.held)
	c.next = (*Call).confirm
}

// confirm: only a reference that still holds, now that it is told of, is one that nobody may use anew.
func (c *Call) confirm() {
	if !c.stillHolds() {
		c.begin()
		return
	}
	c.copier = slot.Copy(c.hall.m, c.hall.record(c.held), c.hall.frame.Record())
	c.next = (*Call).fetch
}

// stillHolds: is the head as it was found? As the reference is held, it wasn't another one in between either.
func (c *Call) stillHolds() bool { return c.hall.m.Load(c.hall.frame.Head()) == c.held }

// fetch: a word more of the record that holds. (If it doesn't any more, these words may be of many; check tells.)
func (c *Call) fetch() {
	if c.copier.Step() {
		c.record = c.copier.Words()
		c.next = (*Call).hear
	}
}

// hear, hearA, hearB: what does this worker ask, if it isn't done?
func (c *Call) hear() {
	f := c.hall.frame
	c.asker.number = c.hall.m.Load(f.Asked(c.asker.worker))
	if c.asker.number == c.record[f.Done(c.asker.worker)] {
		c.hearNext()
		return
	}
	c.next = (*Call).hearA
}

func (c *Call) hearA() {
	c.asker.op.A = c.hall.m.Load(c.hall.frame.A(c.asker.worker))
	c.next = (*Call).hearB
}

func (c *Call) hearB() {
	c.asker.op.B = c.hall.m.Load(c.hall.frame.B(c.asker.worker))
	c.askers = append(c.askers, c.asker)
	c.hearNext()
}

// hearNext: the next worker is heard, until all are.
func (c *Call) hearNext() {
	c.asker = asker{worker: c.asker.worker + 1}
	if c.asker.worker < c.hall.frame.Workers {
		c.next = (*Call).hear
	} else {
		c.next = (*Call).check
	}
}

// check: if the record still holds, its words were copied as they are, and none of those who were heard has ended, so that
// what they ask was heard as they ask it. Only then the object sees these.
func (c *Call) check() {
	if !c.stillHolds() {
		c.begin()
		return
	}
	f := c.hall.frame
	if c.asking && c.record[f.Done(c.worker)] == c.number {
		at := f.Answer(c.worker)
		c.end(api.Op{A: c.record[at], B: c.record[at+1]})
		return
	}
	c.help()
	if !c.asking {
		c.do(c.worker, c.op)
	}
	c.scan = tag.New(c.hall.m, f.Held(0), f.Workers, c.worker, c.spare())
	c.next = (*Call).choose
}

// help: what those ask who were heard is done in the record, and that it is.
func (c *Call) help() {
	f := c.hall.frame
	for _, a := range c.askers {
		answer := c.do(a.worker, a.op)
		at := f.Answer(a.worker)
		c.record[f.Done(a.worker)], c.record[at], c.record[at+1] = a.number, answer.A, answer.B
	}
}

// do: the object is asked, by its own words of the record; it may write those alone, and has no room behind them.
func (c *Call) do(worker int, op api.Op) api.Op {
	n := c.hall.frame.Words
	answer := apply(c.hall.o, c.record[:n:n], op)
	c.entries = append(c.entries, Entry{Worker: worker, Op: op, Answer: answer})
	return answer
}

// apply: what an object answers; nothing, if it panics: it is anyone's.
func apply(o obj.Object, words []uint64, op api.Op) (answer api.Op) {
	defer func() {
		if recover() != nil {
			answer = api.Op{}
		}
	}()
	return o.Apply(words, op)
}

// spare: which of the worker's own slots isn't that of the record that holds.
func (c *Call) spare() int {
	if r, _ := word.To(c.held); r.Worker == c.worker && r.Slot == 0 {
		return 1
	}
	return 0
}

// choose: a word more of what is held; behind all, the tag is one by which nobody holds the slot.
func (c *Call) choose() {
	if c.scan.Step() {
		c.layer = slot.Lay(c.hall.m, c.hall.record(word.Of(c.scan.Ref())), c.record)
		c.next = (*Call).lay
	}
}

// lay: a word more of the record.
func (c *Call) lay() {
	if c.layer.Step() {
		c.next = (*Call).swing
	}
}

// swing: the record holds from now on, if none came ahead of it; then all that was done in it is done.
func (c *Call) swing() {
	h := c.hall
	if !h.m.Swing(h.frame.Head(), c.held, word.Of(c.scan.Ref())) {
		c.begin()
		return
	}
	var own api.Op
	for _, e := range c.entries {
		e.At = h.m.Ops()
		h.entries = append(h.entries, e)
		if e.Worker == c.worker {
			own = e.Answer
		}
	}
	c.end(own)
}
