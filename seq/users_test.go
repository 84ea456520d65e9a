package seq_test

import (
	"fmt"
	"testing"

	"verger/api"
	"verger/auth"
)

// The chapter's example 1.
func TestAttachExample(t *testing.T) {
	p := withSession(t, config())
	p.done(t, 1, aClunk(annRoot))
	if r := p.done(t, 1, anAttach(0, "ann")); !same(r, api.Msg{Kind: api.Rattach, Tag: 3, Qid: api.Qid{Kind: 128, Path: 1}}) {
		t.Errorf("%+v", r)
	}
	p.refused(t, 1, api.ErrAuth, anAttach(1, "eve"))
	p.refused(t, 1, api.ErrUser, anAttach(1, "joe"))
	p.refused(t, 1, api.ErrAuth, attachBy(1, 7, "ann"))
}

// of is a request with another Aname.
func of(q api.Msg, tree string) api.Msg {
	q.Aname = tree
	return q
}

// Tauth: by what it is refused, the first that fails.
func TestAuthRefused(t *testing.T) {
	full := fullStage(t)
	full.refused(t, 1, api.ErrFidBad, of(anAuth(noFid, "joe"), "t"))
	full.refused(t, 1, api.ErrFidUsed, of(anAuth(annX, "joe"), "t"), anAuth(talkFid, "eve"))
	full.refused(t, 1, api.ErrFidFull, of(anAuth(noSuch, "joe"), "t"), anAuth(noSuch, "eve"))
	p := stage(t, config())
	p.refused(t, 1, api.ErrUser, of(anAuth(noSuch, "joe"), "t"), anAuth(noSuch, ""), anAuth(noSuch, "eve "))
	p.refused(t, 1, api.ErrAuth, of(anAuth(noSuch, "ann"), "t"), anAuth(noSuch, "bob"))
	p.refused(t, 1, api.ErrTree, of(anAuth(noSuch, "eve"), "t"), of(anAuth(noSuch, "eve"), "/"))
	for _, q := range []api.Msg{anAuth(noSuch, "eve"), anAuth(noSuch, "joe"), anAuth(annX, "eve"), {Kind: api.Tauth, Fid: annX, Afid: noSuch, Uname: "eve"}} {
		p.wantFoot(t, 1, q, fidAlone(uint64(q.Afid)))
	}
}

// Tauth: a new fid with a talk of the server's own number; the versions count, of each connection, over all its sessions.
func TestAuth(t *testing.T) {
	p := withSession(t, config())
	p.done(t, 2, aVersion(600))
	count := map[int]int{}
	for i, conn := range []int{1, 1, 2, 1, 2, 2, 1} {
		fid := uint32(20 + i)
		count[conn]++
		n := count[conn]
		want := api.Fid{State: api.FidAuth, User: "eve", Talk: api.Talk{User: "eve", Ours: auth.Ours(7, conn, n), Step: api.TalkHello}}
		p.wantPlan(t, conn, anAuth(fid, "eve"), api.Msg{Qid: api.Qid{Kind: 8, Vers: uint32(n)}}, []api.Piece{stands(fid, want)}, nil)
		p.done(t, conn, anAuth(fid, "eve"))
		p.wantFid(t, conn, fid, want)
		if n == 2 {
			p.done(t, conn, aVersion(600)) // a next session counts on
		}
		if n == 3 {
			p.w.Leave(conn)
			p.m.ends(conn)
			p.done(t, conn, aVersion(700))
		}
	}
	if want := map[int]int{1: 4, 2: 3}; !same(count, want) {
		t.Fatal(count)
	}
	// Asked, refused, looked at: nothing of it counts.
	p.w.Decide(1, anAuth(70, "eve"))
	p.refused(t, 1, api.ErrTree, of(anAuth(70, "eve"), "t"))
	if r := p.done(t, 1, anAuth(70, "eve")); r.Qid.Vers != 5 {
		t.Errorf("%+v", r.Qid)
	}
}

// shows goes through an authentication by its fid, in pieces of some bytes, as far as the answer is written.
func (p pair) shows(t *testing.T, fid uint32, key, user string, most int) {
	t.Helper()
	var hello []byte
	for len(hello) < 25 {
		hello = append(hello, p.done(t, 1, aRead(fid, 9, uint32(most))).Data...)
	}
	answer, e := auth.Answer(key, user, "", hello, 0x1234)
	if e != api.OK {
		failf(t, "the hello %q", hello)
	}
	for len(answer) > 0 {
		n := min(most, len(answer))
		if r := p.done(t, 1, aWrite(fid, 1<<60, string(answer[:n]))); int(r.Count) != n {
			t.Errorf("%d of %d bytes were heard", r.Count, n)
		}
		answer = answer[n:]
	}
}

// Who has the key shows it, through the fid; and may attach then, as that user alone, also again and again.
func TestShows(t *testing.T) {
	for _, most := range []int{1, 7, 8, 100, 70000} {
		p := withSession(t, config())
		p.done(t, 1, anAuth(20, "eve"))
		p.shows(t, 20, "k", "eve", most)
		p.refused(t, 1, api.ErrAuth, attachBy(1, 20, "eve")) // the server's proof has not been heard
		for n := 0; n < 17; {
			n += len(p.done(t, 1, aRead(20, 0, uint32(most))).Data)
		}
		if r := p.done(t, 1, aRead(20, 0, 100)); len(r.Data) != 0 {
			t.Errorf("behind the proof: %q", r.Data)
		}
		p.refused(t, 1, api.ErrAuthOver, aWrite(20, 0, "x"), aWrite(20, 0, ""))
		q := attachBy(1, 20, "eve")
		p.wantPlan(t, 1, q, api.Msg{Qid: api.Qid{Kind: 128, Path: 1}}, []api.Piece{stands(1, api.Fid{State: shut, Node: 1, User: "eve"})}, nil)
		p.wantFoot(t, 1, q, fidAlone(1), fidTogether(20), nodeTogether(1))
		p.done(t, 1, q)
		p.done(t, 1, attachBy(2, 20, "eve"))
		p.refused(t, 1, api.ErrTree, of(attachBy(3, 20, "eve"), "t"))
		p.refused(t, 1, api.ErrAuth, attachBy(3, 20, "ann"))
		p.done(t, 1, aClunk(20))
		p.done(t, 1, aStat(1))
		p.refused(t, 1, api.ErrFid, attachBy(3, 20, "eve"))
	}
}

// Who has shown who they are is nobody else who has a key.
func TestShowsOneself(t *testing.T) {
	c := config()
	c.Users += "kim:::k\n"
	p := withSession(t, c)
	p.done(t, 1, anAuth(20, "eve"))
	p.shows(t, 20, "k", "eve", 100)
	p.done(t, 1, aRead(20, 0, 100))
	p.refused(t, 1, api.ErrAuth, attachBy(1, 20, "kim"))
	p.done(t, 1, attachBy(1, 20, "eve"))
}

// A wrong key shows nothing, and the fid is good for nothing any more.
func TestShowsWrongly(t *testing.T) {
	p := withSession(t, config())
	p.done(t, 1, anAuth(20, "eve"))
	p.refused(t, 1, api.ErrAuthText, aWrite(20, 0, "x"))
	p.shows(t, 20, "K", "eve", 10)
	p.refused(t, 1, api.ErrAuthKey, aRead(20, 0, 100), aRead(20, 0, 0))
	p.refused(t, 1, api.ErrAuthOver, aWrite(20, 0, "x"))
	p.refused(t, 1, api.ErrAuth, attachBy(1, 20, "eve"))
	p.done(t, 1, aClunk(20))
}

// What is read of an authentication is at most an iounit, and at most what was asked for.
func TestAuthReads(t *testing.T) {
	hello := fmt.Sprintf("verger1 %016x\n", auth.Ours(7, 1, 1))
	for _, x := range []struct {
		msize, count, want int
	}{{8192, 0, 0}, {8192, 8, 8}, {8192, 25, 25}, {8192, 26, 25}, {24, 10, 0}, {25, 10, 1}, {23, 10, 0}, {1, 10, 0}, {30, 5, 5}, {30, 100, 6}, {512, 1 << 31, 25}} {
		p := withSession(t, config())
		p.done(t, 1, anAuth(20, "eve"))
		p.w.Apply(1, agreed(x.msize))
		p.m.on(1).msize = x.msize
		q := aRead(20, 3, uint32(x.count))
		talk := api.Talk{User: "eve", Ours: auth.Ours(7, 1, 1), Step: api.TalkHello, Said: x.want}
		if x.want == 25 {
			talk.Step, talk.Said = api.TalkAnswer, 0
		}
		p.wantPlan(t, 1, q, api.Msg{Data: []byte(hello[:x.want])}, []api.Piece{stands(20, api.Fid{State: talks, User: "eve", Talk: talk})}, nil)
		p.wantFoot(t, 1, q, fidAlone(20))
		p.done(t, 1, q)
	}
}

// What is written to an authentication comes to a plan that has its fid alone.
func TestAuthWrites(t *testing.T) {
	p := withSession(t, config())
	p.done(t, 1, anAuth(20, "eve"))
	p.done(t, 1, aRead(20, 0, 25))
	talk := api.Talk{User: "eve", Ours: auth.Ours(7, 1, 1), Step: api.TalkAnswer, Heard: []byte("abc")}
	q := aWrite(20, 70000, "abc")
	p.wantPlan(t, 1, q, api.Msg{Count: 3}, []api.Piece{stands(20, api.Fid{State: talks, User: "eve", Talk: talk})}, nil)
	p.wantFoot(t, 1, q, fidAlone(20))
	p.done(t, 1, q)
	p.done(t, 1, aWrite(20, 0, ""))
	p.refused(t, 1, api.ErrAuthText, aWrite(20, 0, "0123456789012345678901234567890"))
}

// Tattach: by what it is refused, the first that fails.
func TestAttachRefused(t *testing.T) {
	full := fullStage(t)
	full.refused(t, 1, api.ErrFidBad, of(anAttach(noFid, "joe"), "t"))
	full.refused(t, 1, api.ErrFidUsed, of(anAttach(annX, "joe"), "t"), anAttach(talkFid, "ann"))
	full.refused(t, 1, api.ErrFidFull, of(anAttach(noSuch, "joe"), "t"), anAttach(noSuch, "ann"))
	p := stage(t, config())
	p.refused(t, 1, api.ErrUser, of(attachBy(noSuch, noSuch, "joe"), "t"), anAttach(noSuch, ""))
	p.refused(t, 1, api.ErrTree, of(anAttach(noSuch, "ann"), "t"), of(attachBy(noSuch, annX, "ann"), "t"), of(attachBy(noSuch, noSuch, "eve"), "t"), of(anAttach(noSuch, "eve"), " "))
	p.refused(t, 1, api.ErrAuth, attachBy(noSuch, noSuch, "ann"), attachBy(noSuch, talkFid, "bob"), attachBy(noSuch, annX, "bob"), attachBy(noSuch, 0, "bob"))
	p.refused(t, 1, api.ErrAuth, anAttach(noSuch, "eve"))
	p.refused(t, 1, api.ErrFid, attachBy(noSuch, noSuch, "eve"), attachBy(noSuch, 78, "eve"))
	p.refused(t, 1, api.ErrAuth, attachBy(noSuch, annX, "eve"), attachBy(noSuch, talkFid, "eve"), attachBy(noSuch, shutGone, "eve"))
	// An Afid of another session is none.
	p.done(t, 2, aVersion(600))
	p.refused(t, 2, api.ErrFid, attachBy(noSuch, talkFid, "eve"))
	// What stands in a shut fid's talk shows nothing.
	done := api.Talk{User: "eve", Step: api.TalkDone}
	p.w.Apply(1, stands(annX, api.Fid{State: shut, Node: x, User: "ann", Talk: done}))
	p.m.on(1).put(annX, api.Fid{State: shut, Node: x, User: "ann", Talk: done})
	p.refused(t, 1, api.ErrAuth, attachBy(noSuch, annX, "eve"))
	// To another tree it is not shown.
	elsewhere := api.Fid{State: talks, User: "eve", Talk: api.Talk{User: "eve", Tree: "t", Step: api.TalkDone}}
	p.w.Apply(1, stands(talkFid, elsewhere))
	p.m.on(1).put(talkFid, elsewhere)
	p.refused(t, 1, api.ErrAuth, attachBy(noSuch, talkFid, "eve"))
}

// Tattach: a new fid at the root, of the root as it is now.
func TestAttach(t *testing.T) {
	p := stage(t, config())
	n := p.is(t, 1)
	q := anAttach(noFid-1, "bob")
	p.wantPlan(t, 1, q, api.Msg{Qid: api.Qid{Kind: 128, Vers: n.Vers, Path: 1}}, []api.Piece{stands(noFid-1, api.Fid{State: shut, Node: 1, User: "bob"})}, nil)
	p.done(t, 1, q)
	p.wantFid(t, 1, noFid-1, api.Fid{State: shut, Node: 1, User: "bob"})
	if n.Vers == 0 {
		t.Error("the root was never changed")
	}
}

// What a Tattach needs, whether it is refused or not.
func TestAttachFoot(t *testing.T) {
	p := stage(t, config())
	p.wantFoot(t, 1, anAttach(noSuch, "ann"), fidAlone(noSuch), nodeTogether(1))
	p.wantFoot(t, 1, anAttach(annX, "joe"), fidAlone(annX), nodeTogether(1))
	p.wantFoot(t, 1, anAttach(noFid, "joe"), fidAlone(noFid), nodeTogether(1))
	p.wantFoot(t, 1, attachBy(noSuch, talkFid, "eve"), fidTogether(talkFid), fidAlone(noSuch), nodeTogether(1))
	p.wantFoot(t, 1, attachBy(annX, talkFid, "eve"), fidAlone(annX), fidTogether(talkFid), nodeTogether(1))
	p.wantFoot(t, 1, attachBy(noSuch, noSuch, "eve"), fidAlone(noSuch), nodeTogether(1))
}
