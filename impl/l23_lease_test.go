package impl

import (
	"sync"
	"testing"
	"time"
)

// No exported function shares a lease between goroutines, so none shows what the mutex is for.

// keeperCalls returns each kind of use of a keeper, and a grant that is refused.
func keeperCalls() map[string]func(k *leaseKeeper) {
	return map[string]func(k *leaseKeeper){
		"isActive":  func(k *leaseKeeper) { k.isActive(15) },
		"isExpired": func(k *leaseKeeper) { k.isExpired(15) },
		"grant":     func(k *leaseKeeper) { k.grant(Lease{Holder: 2, Start: 15, Length: 20}) },
		"refusal":   func(k *leaseKeeper) { k.grant(Lease{Holder: 3, Start: 15, Length: 20}) },
	}
}

func newKeeper() *leaseKeeper {
	return &leaseKeeper{lease: Lease{Holder: 2, Start: 10, Length: 20}, drift: 3}
}

func TestKeepersWaitForTheMutex(t *testing.T) {
	for name, call := range keeperCalls() {
		k := newKeeper()
		k.mutex.Lock()
		started, done := make(chan bool), make(chan bool)
		go func() {
			close(started)
			call(k)
			close(done)
		}()
		<-started
		select {
		case <-done:
			t.Errorf("%s does not wait for the mutex", name)
		case <-time.After(10 * time.Millisecond):
		}
		k.mutex.Unlock()
		<-done
	}
}

func TestKeepersReleaseTheMutex(t *testing.T) {
	for name, call := range keeperCalls() {
		k := newKeeper()
		call(k)
		if !k.mutex.TryLock() {
			t.Errorf("%s does not release the mutex", name)
		}
	}
}

// Of members that find the lease expired at the same time, one is granted it, and the keeper has its lease.
func TestKeepersGrantALeaseOnce(t *testing.T) {
	for range 200 {
		k := newKeeper()
		var granted [MaxMembers + 1]bool
		var members sync.WaitGroup
		for m := 1; m <= MaxMembers; m++ {
			members.Go(func() {
				_, granted[m] = k.grant(Lease{Holder: m, Start: 40, Length: m})
			})
		}
		members.Wait()
		winners := 0
		for m, ok := range granted {
			if !ok {
				continue
			}
			winners++
			if want := (Lease{Holder: m, Start: 40, Length: m}); k.lease != want {
				t.Fatalf("the keeper has %v after the grant of %v", k.lease, want)
			}
		}
		if winners != 1 {
			t.Fatalf("%d members were granted the lease", winners)
		}
	}
}
