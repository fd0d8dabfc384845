package hall

import "chandlery/api"

// helped is how many attempts a worker makes that has asked for help: behind these what it asks is done.
const helped = 2

// Call is what a worker asks of the object, on its way.
type Call struct {
	hall   *Hall
	worker int
	op     api.Op
	next   func(*Call) // what its next step does; nil: it is over
	steps  int
	left   int    // how many attempts it makes still, alone or, behind that, helped
	asking bool   // it has asked the others for help
	number uint64 // by which of its askings
	attempt
	at     int // where the record begins in which its answer is
	answer api.Op
}

// Step: its next step; true: it is over.
func (c *Call) Step() bool {
	if c == nil || c.next == nil {
		return true
	}
	c.steps++
	c.next(c)
	return c.next == nil
}

// Steps: how many steps it took. Answer: what the object answered; false: it isn't over.
func (c *Call) Steps() int {
	if c == nil {
		return 0
	}
	return c.steps
}

func (c *Call) Answer() (api.Op, bool) {
	if c == nil || c.next != nil {
		return api.Op{}, false
	}
	return c.answer, true
}

// begin: another attempt, if one is left; else it asks for help, or, if it has done that, it was helped.
func (c *Call) begin() {
	c.attempt = attempt{}
	if c.left > 0 {
		c.left--
		c.next = (*Call).look
	} else if !c.asking {
		c.next = (*Call).askA
	} else {
		c.next = (*Call).findRecord
	}
}

// end: it is over, and the worker may ask anew.
func (c *Call) end(answer api.Op) {
	c.answer = answer
	c.attempt = attempt{}
	c.next = nil
	c.hall.workers[c.worker].busy = false
}

// askA, askB, ask: what it asks stands there, ahead of the number by which the others see that it asks.
func (c *Call) askA() {
	c.hall.m.Store(c.hall.frame.A(c.worker), c.op.A)
	c.next = (*Call).askB
}

func (c *Call) askB() {
	c.hall.m.Store(c.hall.frame.B(c.worker), c.op.B)
	c.next = (*Call).ask
}

func (c *Call) ask() {
	self := &c.hall.workers[c.worker]
	self.asked++
	c.asking, c.number, c.left = true, self.asked, helped
	c.hall.m.Store(c.hall.frame.Asked(c.worker), c.number)
	c.begin()
}

// findRecord, readA, readB: others have done it; the record that holds has the answer. It needn't be held: whatever is laid
// over it from now on comes of a later one, which has the same answer, until this worker asks for something else.
func (c *Call) findRecord() {
	c.at = c.hall.record(c.hall.m.Load(c.hall.frame.Head()))
	c.next = (*Call).readA
}

func (c *Call) readA() {
	c.answer.A = c.hall.m.Load(c.at + c.hall.frame.Answer(c.worker))
	c.next = (*Call).readB
}

func (c *Call) readB() {
	b := c.hall.m.Load(c.at + c.hall.frame.Answer(c.worker) + 1)
	c.end(api.Op{A: c.answer.A, B: b})
}
