package model

import (
	"cmp"
	"slices"

	"roadstead/api"
	"roadstead/state"
	"roadstead/topic"
)

// Why a message died: it was given back too often, or its lease was over too often.
const (
	byNack = "nack"
	byTime = "time"
)

// publish is a state with a message behind the queue of each subscription that has it; the number is the message's.
func (a asked) publish() (api.State, api.Reply) {
	must(topic.Right(a.o.Topic), api.ErrTopic)
	must(len(a.o.Body) <= api.MaxBody, api.ErrLong)
	must(topic.Attrs(a.o.Attr), api.ErrWant)
	must(within(a.o.N, 0, api.MaxPrio), api.ErrArg)
	must(a.s.Next < api.MaxSeq, api.ErrOver)
	m := api.Message{Seq: a.s.Next, Body: a.o.Body, Attr: a.o.Attr, Prio: a.o.N}
	next := own(a.s)
	for i, x := range next.Subs {
		if topic.Match(x.Topic, a.o.Topic) && topic.Wanted(x.Want, a.o.Attr) {
			must(len(x.Queue) < api.MaxQueue, api.ErrQuota)
			next.Subs[i].Queue = append(x.Queue, m)
		}
	}
	next.Next++
	return next, api.Reply{N: m.Seq}
}

// fetch is a state in which the first messages that wait are leased; the list is these.
func (a asked) fetch() (api.State, api.Reply) {
	x := a.sub()
	must(within(a.o.N, 1, api.MaxQueue), api.ErrArg)
	var l []api.Message
	for _, at := range ready(x.Queue, a.o.N) {
		m := x.Queue[at]
		m.Tries++
		m.Until = a.s.Clock + x.Lease
		x.Queue[at] = m
		l = append(l, m)
	}
	return state.Put(a.s, x), api.Reply{List: l, N: len(l)}
}

// ready are the places of so many messages that wait, those of the highest priority ahead.
func ready(queue []api.Message, n int) []int {
	var l []int
	for at, m := range queue {
		if !m.Dead && m.Until == 0 {
			l = append(l, at)
		}
	}
	// Of the same priority they stay as they stand in the queue: by rising Seq.
	slices.SortStableFunc(l, func(i, j int) int { return cmp.Compare(queue[j].Prio, queue[i].Prio) })
	return l[:min(n, len(l))]
}

// ack is a state in which a leased message is acknowledged.
func (a asked) ack() (api.State, api.Reply) {
	x, at := a.leased()
	x.Acks = append(x.Acks, x.Queue[at].Seq)
	slices.Sort(x.Acks)
	x.Queue = slices.Delete(x.Queue, at, at+1)
	x = state.Settle(x, a.s.Next)
	must(len(x.Acks) <= api.MaxAcks, api.ErrQuota)
	return state.Put(a.s, x), api.Reply{}
}

// ackTo is a state in which all messages up to one are acknowledged.
func (a asked) ackTo() (api.State, api.Reply) {
	x := a.sub()
	must(within(a.o.Seq, x.Floor, a.s.Next-1), api.ErrArg)
	x.Queue = slices.DeleteFunc(x.Queue, func(m api.Message) bool { return m.Seq <= a.o.Seq })
	x.Floor = a.o.Seq
	return state.Put(a.s, state.Settle(x, a.s.Next)), api.Reply{}
}

// nack is a state in which a leased message is given back.
func (a asked) nack() (api.State, api.Reply) {
	x, at := a.leased()
	x.Queue[at] = back(x.Queue[at], x.Most, byNack)
	return state.Put(a.s, x), api.Reply{}
}

// tick is a state at a later time: the leases that are over then are taken back.
func (a asked) tick() (api.State, api.Reply) {
	must(within(a.o.N, 0, api.MaxSeq), api.ErrArg)
	must(a.s.Clock+a.o.N <= api.MaxClock, api.ErrOver)
	next := own(a.s)
	next.Clock += a.o.N
	for _, x := range next.Subs {
		for at, m := range x.Queue {
			if m.Until > 0 && m.Until <= next.Clock {
				x.Queue[at] = back(m, x.Most, byTime)
			}
		}
	}
	return next, api.Reply{}
}

// dead is the same state; the list is the messages of a subscription that died.
func (a asked) dead() (api.State, api.Reply) {
	l := slices.DeleteFunc(a.sub().Queue, func(m api.Message) bool { return !m.Dead })
	return own(a.s), api.Reply{List: l, N: len(l)}
}

// purge is a state without the messages of a subscription that died; the number is how many they were.
func (a asked) purge() (api.State, api.Reply) {
	x := a.sub()
	all := len(x.Queue)
	x.Queue = slices.DeleteFunc(x.Queue, func(m api.Message) bool { return m.Dead })
	return state.Put(a.s, state.Settle(x, a.s.Next)), api.Reply{N: all - len(x.Queue)}
}

// leased is the subscription that is asked for, in memory of its own, and where in its queue the message is, which must be leased.
func (a asked) leased() (api.Sub, int) {
	x := a.sub()
	at := slices.IndexFunc(x.Queue, func(m api.Message) bool { return m.Seq == a.o.Seq })
	must(at >= 0, api.ErrNone)
	must(x.Queue[at].Until > 0, api.ErrArg)
	return x, at
}

// back is a message behind its lease: it waits again, or, if it was tried as often as may be, it is dead.
func back(m api.Message, most int, why string) api.Message {
	m.Until = 0
	if m.Tries == most {
		m.Dead, m.Why = true, why
	}
	return m
}
