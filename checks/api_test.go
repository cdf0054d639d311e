package checks

import (
	"testing"

	"icehouse/api"
)

type numbered struct {
	name      string
	got, want int
}

func runNumbered(t *testing.T, l []numbered) {
	for _, c := range l {
		if c.got != c.want {
			t.Errorf("%s is %d, not %d", c.name, c.got, c.want)
		}
	}
}

func TestLimits(t *testing.T) {
	runNumbered(t, []numbered{
		{"MaxBytes", api.MaxBytes, 4194304},
		{"MaxField", api.MaxField, 65536},
		{"MaxSeq", api.MaxSeq, 1099511627775},
		{"MaxID", api.MaxID, 1048575},
		{"MaxKey", api.MaxKey, 250},
		{"MaxVal", api.MaxVal, 60000},
		{"MaxRecord", api.MaxRecord, 65536},
		{"MaxDisk", api.MaxDisk, 4194304},
		{"MaxMembers", api.MaxMembers, 64},
		{"MaxEach", api.MaxEach, 64},
		{"MaxCells", api.MaxCells, 4096},
		{"MaxBuckets", api.MaxBuckets, 256},
		{"MaxList", api.MaxList, 1000},
		{"MaxBatch", api.MaxBatch, 64},
		{"MaxTimes", api.MaxTimes, 16},
		{"MaxWait", api.MaxWait, 1000},
		{"MaxDeeds", api.MaxDeeds, 20},
		{"MaxFlight", api.MaxFlight, 20000},
		{"MaxScript", api.MaxScript, 60000},
	})
}

func TestErrors(t *testing.T) {
	for _, c := range []struct {
		got  api.Errno
		want int
	}{
		{api.OK, 0}, {api.ErrNil, 1}, {api.ErrArg, 2}, {api.ErrLong, 3}, {api.ErrNone, 4}, {api.ErrNaN, 10},
		{api.ErrForm, 11}, {api.ErrShort, 12}, {api.ErrSum, 20}, {api.ErrBusy, 30}, {api.ErrTime, 40},
	} {
		if int(c.got) != c.want {
			t.Errorf("an error is %d, not %d", c.got, c.want)
		}
	}
}

func TestNames(t *testing.T) {
	for name, l := range map[string][]int{
		"messages from 1 on": {api.Ask, api.Told, api.Keep, api.Kept, api.NoRoom, api.Other, api.Look, api.Found, api.Fill, api.Flush, api.Flushed, api.Seal, api.Dump, api.Install, api.Ready, api.News, api.Beat},
		"calls from 1 on":    {api.Get, api.Put, api.Delete},
		"roles from 1 on":    {api.Replica, api.Agent},
		"acts from 1 on":     {api.DoCall, api.Deliver, api.Lose, api.Twice, api.Tick, api.Stop, api.StopDepot, api.StopChief, api.AddNode, api.AddProxy, api.DoChange, api.Round},
	} {
		for i, n := range l {
			if n != i+1 {
				t.Errorf("%s: number %d is %d", name, i+1, n)
			}
		}
	}
	runNumbered(t, []numbered{
		{"Apart", api.Apart, 0}, {"Active", api.Active, 1}, {"Sealed", api.Sealed, 2},
		{"Chief", api.Chief, 0}, {"Depot", api.Depot, 1},
		{"Idle", api.Idle, 0}, {"Sealing", api.Sealing, 1}, {"Installing", api.Installing, 2},
	})
}
