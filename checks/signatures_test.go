package checks

// The calls of all layers, as the chapters list them: this file does not compile
// if one is missing or has other arguments or results.

import (
	"icehouse/api"
	"icehouse/beat"
	"icehouse/cells"
	"icehouse/chief"
	"icehouse/cluster"
	"icehouse/depot"
	"icehouse/disk"
	"icehouse/frames"
	"icehouse/hash"
	"icehouse/lin"
	"icehouse/msgs"
	"icehouse/pack"
	"icehouse/play"
	"icehouse/proxy"
	"icehouse/quorum"
	"icehouse/real"
	"icehouse/replica"
	"icehouse/ring"
	"icehouse/store"
	"icehouse/tags"
	"icehouse/wal"
)

// Layer 1.
var (
	_ func(float64, float64) bool                 = real.Same
	_ func(float64) float64                       = real.Canon
	_ func(float64) uint64                        = real.Key
	_ func(uint64) float64                        = real.Of
	_ func(float64, float64) int                  = real.Compare
	_ func(...float64) (float64, api.Errno)       = real.Least
	_ func(...float64) (float64, api.Errno)       = real.Mean
	_ func(float64, float64) (float64, api.Errno) = real.Share
	_ func(float64) []byte                        = real.Bytes
	_ func([]byte) (float64, api.Errno)           = real.Read
)

// Layer 2.
var (
	_ func(int) []byte                   = pack.Num
	_ func([]byte) ([]byte, api.Errno)   = pack.Row
	_ func(bool) []byte                  = pack.Truth
	_ func([]byte) *pack.Reader          = pack.New
	_ func(*pack.Reader) int             = (*pack.Reader).Num
	_ func(*pack.Reader, int) int        = (*pack.Reader).Below
	_ func(*pack.Reader) []byte          = (*pack.Reader).Row
	_ func(*pack.Reader) bool            = (*pack.Reader).Truth
	_ func(*pack.Reader) int             = (*pack.Reader).Left
	_ func(*pack.Reader) bool            = (*pack.Reader).Failed
	_ func(*pack.Reader)                 = (*pack.Reader).Fail
	_ func(*pack.Reader) api.Errno       = (*pack.Reader).End
	_ func([]byte) ([]int, api.Errno)    = pack.Nums
	_ func([]byte) ([][]byte, api.Errno) = pack.Rows
)

// Layer 3.
var (
	_ func(api.Tag) api.Errno                      = tags.Check
	_ func(api.Tag, api.Tag) int                   = tags.Compare
	_ func(...api.Tag) api.Tag                     = tags.Max
	_ func(api.Tag, int, int) (api.Tag, api.Errno) = tags.Next
	_ func(api.Tag) bool                           = tags.None
	_ func(api.Entry) api.Errno                    = tags.Right
	_ func(api.Entry, api.Entry) api.Entry         = tags.Newer
	_ func(api.Val, api.Val) bool                  = tags.SameVal
	_ func(api.Entry, api.Entry) bool              = tags.Same
	_ func(api.Entry) api.Entry                    = tags.Copy
	_ func(api.Entry) ([]byte, api.Errno)          = tags.Bytes
	_ func(*pack.Reader) api.Entry                 = tags.Get
	_ func([]byte) (api.Entry, api.Errno)          = tags.Read
	_ func(api.Entry) int                          = tags.Size
)

// Layer 4.
var (
	_ func(...[]byte) uint64             = hash.Sum
	_ func(uint64, byte) uint64          = hash.Step
	_ func(uint64) uint64                = hash.Stir
	_ func(uint64) uint64                = hash.Unstir
	_ func(string) uint64                = hash.Key
	_ func(int, int) uint64              = hash.Point
	_ func(...[]byte) uint32             = hash.Check
	_ func(string, int) (int, api.Errno) = hash.Bucket
)

// Layer 5.
var (
	_ func(byte, []byte) ([]byte, api.Errno)      = frames.One
	_ func([]byte) (byte, []byte, int, api.Errno) = frames.Next
	_ func([]byte) ([]api.Record, int, api.Errno) = frames.Scan
	_ func(...api.Record) ([]byte, api.Errno)     = frames.All
	_ func([]api.Record, []api.Record) bool       = frames.Same
)

// Layer 6.
var (
	_ func() *disk.Disk                     = disk.New
	_ func([]byte) (*disk.Disk, api.Errno)  = disk.Of
	_ func(*disk.Disk, ...[]byte) api.Errno = (*disk.Disk).Append
	_ func(*disk.Disk) api.Errno            = (*disk.Disk).Sync
	_ func(*disk.Disk, []byte) api.Errno    = (*disk.Disk).Replace
	_ func(*disk.Disk, int) api.Errno       = (*disk.Disk).Crash
	_ func(*disk.Disk) []byte               = (*disk.Disk).Lasting
	_ func(*disk.Disk) []byte               = (*disk.Disk).Tail
	_ func(*disk.Disk) []byte               = (*disk.Disk).Bytes
	_ func(*disk.Disk) int                  = (*disk.Disk).Syncs
	_ func(*disk.Disk) *disk.Disk           = (*disk.Disk).Copy
)

// Layer 7.
var (
	_ func() *wal.Log                             = wal.New
	_ func(*disk.Disk) (*wal.Log, int, api.Errno) = wal.Open
	_ func(*wal.Log, byte, ...[]byte) api.Errno   = (*wal.Log).Append
	_ func(*wal.Log) api.Errno                    = (*wal.Log).Sync
	_ func(*wal.Log, []byte) api.Errno            = (*wal.Log).Snapshot
	_ func(*wal.Log) []api.Record                 = (*wal.Log).Records
	_ func(*wal.Log) int                          = (*wal.Log).Lasting
	_ func(*wal.Log) int                          = (*wal.Log).Pending
	_ func(*wal.Log) ([]byte, []api.Record)       = (*wal.Log).Last
	_ func(*wal.Log) *disk.Disk                   = (*wal.Log).Disk
	_ func(*wal.Log, int) (*wal.Log, api.Errno)   = (*wal.Log).Crash
)

// Layer 8.
var (
	_ func() *store.Store                               = store.New
	_ func(*disk.Disk) (*store.Store, int, api.Errno)   = store.Recover
	_ func(*store.Store, api.Entry, int) api.Errno      = (*store.Store).Put
	_ func(*store.Store) ([]api.Ack, api.Errno)         = (*store.Store).Tick
	_ func(*store.Store, string) api.Entry              = (*store.Store).Get
	_ func(*store.Store, string) api.Entry              = (*store.Store).Newest
	_ func(*store.Store) []api.Entry                    = (*store.Store).All
	_ func(*store.Store) api.Errno                      = (*store.Store).Compact
	_ func(*store.Store) int                            = (*store.Store).Waiting
	_ func(*store.Store) *disk.Disk                     = (*store.Store).Disk
	_ func(*store.Store, int) (*store.Store, api.Errno) = (*store.Store).Crash
)

// Layer 9.
var (
	_ func(api.Ring) api.Errno                  = ring.Check
	_ func(api.Ring) ([]api.Point, api.Errno)   = ring.Points
	_ func(api.Ring, uint64) ([]int, api.Errno) = ring.At
	_ func(api.Ring, string) ([]int, api.Errno) = ring.Keepers
	_ func(api.Ring) ([][]int, api.Errno)       = ring.Lists
	_ func(api.Ring, uint64) (int, api.Errno)   = ring.Segment
	_ func(api.Ring, int) (api.Ring, api.Errno) = ring.With
	_ func(api.Ring, int) (api.Ring, api.Errno) = ring.Without
	_ func(api.Ring, api.Ring) bool             = ring.Same
)

// Layer 10.
var (
	_ func(int) int                             = quorum.Need
	_ func([]int, ...int) bool                  = quorum.Enough
	_ func(int, int, int) bool                  = quorum.Meet
	_ func(api.Ring, ...int) (bool, api.Errno)  = quorum.Covers
	_ func(api.Ring, ...int) ([]int, api.Errno) = quorum.Lost
	_ func([]int, []int) []int                  = quorum.Common
	_ func(...int) (*quorum.Count, api.Errno)   = quorum.New
	_ func(*quorum.Count, int) api.Errno        = (*quorum.Count).Add
	_ func(*quorum.Count) []int                 = (*quorum.Count).Got
	_ func(*quorum.Count) int                   = (*quorum.Count).Left
	_ func(*quorum.Count) bool                  = (*quorum.Count).Done
)

// Layer 11.
var (
	_ func(api.Room) (*cells.Table, api.Errno)             = cells.New
	_ func(*cells.Table, string) (api.Reply, api.Errno)    = (*cells.Table).Query
	_ func(*cells.Table, api.Entry) api.Errno              = (*cells.Table).Store
	_ func(*cells.Table, api.Entry, int) (bool, api.Errno) = (*cells.Table).Fill
	_ func(*cells.Table, string, api.Tag) bool             = (*cells.Table).Clean
	_ func(*cells.Table, string) bool                      = (*cells.Table).Evict
	_ func(*cells.Table)                                   = (*cells.Table).Forget
	_ func(*cells.Table) []api.Entry                       = (*cells.Table).Dirty
	_ func(*cells.Table) []api.Cell                        = (*cells.Table).Cells
	_ func(*cells.Table) []int                             = (*cells.Table).Tokens
	_ func(*cells.Table) (int, int)                        = (*cells.Table).Size
	_ func(*cells.Table) *cells.Table                      = (*cells.Table).Copy
)

// Layer 12.
var (
	_ func(api.Msg) api.Errno                  = msgs.Check
	_ func(api.Msg) ([]byte, api.Errno)        = msgs.Bytes
	_ func([]byte) (api.Msg, api.Errno)        = msgs.Read
	_ func(api.Msg, api.Msg) bool              = msgs.Same
	_ func(api.Msg) api.Msg                    = msgs.Copy
	_ func(api.Msg, int) api.Msg               = msgs.Back
	_ func(int) (bool, bool, bool, bool, bool) = msgs.Has
)

// Layer 13.
var (
	_ func(api.Place) (*replica.Node, api.Errno) = replica.New
	_ func(*replica.Node, api.Msg) []api.Msg     = (*replica.Node).Handle
	_ func(*replica.Node) []api.Msg              = (*replica.Node).Tick
	_ func(*replica.Node) int                    = (*replica.Node).Mode
	_ func(*replica.Node) int                    = (*replica.Node).Epoch
	_ func(*replica.Node) []api.Cell             = (*replica.Node).Cells
	_ func(*replica.Node) []int                  = (*replica.Node).Tokens
	_ func(*replica.Node) *replica.Node          = (*replica.Node).Copy
)

// Layer 14.
var (
	_ func() *depot.Server                                = depot.New
	_ func(*depot.Server, api.Msg) []api.Msg              = (*depot.Server).Handle
	_ func(*depot.Server) []api.Msg                       = (*depot.Server).Tick
	_ func(*depot.Server, int) (*depot.Server, api.Errno) = (*depot.Server).Crash
	_ func(*depot.Server, string) api.Entry               = (*depot.Server).Get
	_ func(*depot.Server) []api.Entry                     = (*depot.Server).All
	_ func(*depot.Server) *disk.Disk                      = (*depot.Server).Disk
	_ func(*depot.Server) api.Errno                       = (*depot.Server).Compact
	_ func(*depot.Server) *depot.Server                   = (*depot.Server).Copy
)

// Layer 15.
var (
	_ func(int) (api.Beats, api.Errno)                = beat.New
	_ func(api.Beats) api.Errno                       = beat.Check
	_ func(api.Beats, int) (api.Beats, api.Errno)     = beat.Heard
	_ func(api.Beats) (float64, api.Errno)            = beat.Usual
	_ func(api.Beats, int) (float64, api.Errno)       = beat.Score
	_ func(api.Beats, int, float64) (bool, api.Errno) = beat.Suspect
	_ func(int, ...api.Beats) ([]int, api.Errno)      = beat.Order
	_ func(api.Beats, api.Beats) bool                 = beat.Same
)

// Layer 16.
var (
	_ func(int, int) (*proxy.Proxy, api.Errno)               = proxy.New
	_ func(*proxy.Proxy, api.Call) ([]api.Msg, []api.Answer) = (*proxy.Proxy).Call
	_ func(*proxy.Proxy, api.Msg) ([]api.Msg, []api.Answer)  = (*proxy.Proxy).Handle
	_ func(*proxy.Proxy) ([]api.Msg, []api.Answer)           = (*proxy.Proxy).Tick
	_ func(*proxy.Proxy) int                                 = (*proxy.Proxy).Epoch
	_ func(*proxy.Proxy) []int                               = (*proxy.Proxy).Pending
	_ func(*proxy.Proxy) *proxy.Proxy                        = (*proxy.Proxy).Copy
)

// Layer 17.
var (
	_ func(int, int, int) (*chief.Chief, api.Errno)     = chief.New
	_ func(*chief.Chief, int) (int, api.Errno)          = (*chief.Chief).Issue
	_ func(*chief.Chief, ...int) api.Errno              = (*chief.Chief).Change
	_ func(*chief.Chief, api.Msg) []api.Msg             = (*chief.Chief).Handle
	_ func(*chief.Chief) []api.Msg                      = (*chief.Chief).Tick
	_ func(*chief.Chief) int                            = (*chief.Chief).Phase
	_ func(*chief.Chief) (int, api.Ring)                = (*chief.Chief).Epoch
	_ func(*chief.Chief) (int, api.Ring)                = (*chief.Chief).Next
	_ func(*chief.Chief) int                            = (*chief.Chief).Issued
	_ func(*chief.Chief) *disk.Disk                     = (*chief.Chief).Disk
	_ func(*chief.Chief, int) (*chief.Chief, api.Errno) = (*chief.Chief).Crash
)

// Layer 18.
var (
	_ func(...api.Note) api.Errno                       = lin.Right
	_ func(...api.Note) []string                        = lin.Keys
	_ func(string, ...api.Note) ([]api.Deed, api.Errno) = lin.Deeds
	_ func(...api.Deed) ([]int, api.Errno)              = lin.Order
	_ func([]api.Deed, ...int) bool                     = lin.Holds
	_ func(...api.Note) (bool, api.Errno)               = lin.Linear
	_ func([]api.Note, []api.Note) bool                 = lin.Same
)

// Layer 19.
var (
	_ func(api.Plan) (*cluster.Cluster, api.Errno)     = cluster.New
	_ func(*cluster.Cluster, api.Act) (int, api.Errno) = (*cluster.Cluster).Do
	_ func(*cluster.Cluster, ...api.Act) int           = (*cluster.Cluster).Play
	_ func(*cluster.Cluster) []api.Note                = (*cluster.Cluster).History
	_ func(*cluster.Cluster) []api.Msg                 = (*cluster.Cluster).Flight
	_ func(*cluster.Cluster) []int                     = (*cluster.Cluster).Live
	_ func(*cluster.Cluster) (int, api.Ring)           = (*cluster.Cluster).Epoch
	_ func(*cluster.Cluster, int) []api.Cell           = (*cluster.Cluster).Cells
	_ func(*cluster.Cluster, int) []int                = (*cluster.Cluster).Pending
	_ func(*cluster.Cluster, string) api.Entry         = (*cluster.Cluster).Stored
)

// Layer 20.
var (
	_ func(string) ([]api.Act, int, api.Errno)        = play.Parse
	_ func(...api.Act) (string, api.Errno)            = play.Print
	_ func(api.Act) api.Errno                         = play.Check
	_ func(api.Note) string                           = play.Line
	_ func(...api.Note) string                        = play.Told
	_ func(api.Plan, string) (string, int, api.Errno) = play.Play
	_ func([]api.Act, []api.Act) bool                 = play.Same
)
