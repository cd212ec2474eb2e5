package model

import (
	"roadstead/api"
	"roadstead/state"
	"roadstead/topic"
)

// subscribe is a state with one subscription more; the number is its ID.
func (a asked) subscribe() (api.State, api.Reply) {
	must(named(a.o.Name), api.ErrName)
	must(topic.Pattern(a.o.Topic), api.ErrTopic)
	must(topic.Attrs(a.o.Want), api.ErrWant)
	must(within(a.o.N, 1, api.MaxLease) && within(a.o.Seq, 1, api.MaxTries), api.ErrArg)
	must(len(a.s.Subs) < api.MaxSubs, api.ErrQuota)
	must(a.s.Last < api.MaxSeq, api.ErrOver)
	id := a.s.Last + 1
	next := state.Put(a.s, api.Sub{
		ID: id, Name: a.o.Name, Topic: a.o.Topic, Want: a.o.Want,
		Lease: a.o.N, Most: a.o.Seq, Floor: a.s.Next - 1,
	})
	next.Last = id
	return next, api.Reply{N: id}
}

// unsubscribe is a state without a subscription.
func (a asked) unsubscribe() (api.State, api.Reply) {
	return state.Without(a.s, a.sub().ID), api.Reply{}
}

// annotate is a state in which a subscription has another note.
func (a asked) annotate() (api.State, api.Reply) {
	x := a.sub()
	must(len(a.o.Name) <= api.MaxTopic, api.ErrLong)
	x.Note = a.o.Name
	return state.Put(a.s, x), api.Reply{}
}

// look is the same state; the number is how many subscriptions there are.
func (a asked) look() (api.State, api.Reply) {
	return own(a.s), api.Reply{N: len(a.s.Subs)}
}

// sub is the subscription that is asked for, in memory of its own.
func (a asked) sub() api.Sub {
	x, ok := state.Find(a.s, a.o.Sub)
	must(ok, api.ErrNone)
	return x
}

// named says whether a subscription may be called so: whether one may be that has that name, and nothing else that could be wrong.
func named(name string) bool {
	return state.Good(api.Sub{ID: 1, Name: name, Topic: "a", Lease: 1, Most: 1}, 0, 1)
}
