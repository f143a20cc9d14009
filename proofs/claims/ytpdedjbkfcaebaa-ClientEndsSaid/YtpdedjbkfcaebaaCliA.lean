/- Layer 18's data as abstract values. Plain definitions. -/
import Derived.Test.YtpdedjbkfcaebaaAbsBr
import Derived.Test.YtpdedjbkfcaebaaCliP
set_option linter.unusedVariables false
namespace Go.Proofs.Ytpdedjbkfcaebaa
open Go.RowKit Copyhold
def repA (r : Rep) : List AV := [aI r.e, aI r.a, aI r.b, aI r.n, aS r.t, .sl 1 false (r.ns.map txA)]
def calA (c : Cal) : List AV := [aI c.kind, aI c.ino, aI c.dest, aI c.pos, aI c.many, aS c.name, aS c.name2, aS c.text]
def jobA (j : List Cal) : List AV := [.sl 8 false (j.map calA)]
def donA (d : Don) : List AV := [aI d.seq, aB d.yes, aI d.e, .sl 6 false (d.l.map repA)]
def cliA (x : Cli) : List AV := [aI x.me, aI x.epoch, aI x.seq, .sl 1 false (x.jobs.map jobA), aI x.phase, aI x.n, aI x.stamp, .sl 4 false (x.told.map donA), .sl 6 false (x.now.map repA)]
def rspA (r : Rsp) : List AV := [aI r.kind, aI r.client, aI r.epoch, aI r.seq, aI r.n, aI r.r.e, aI r.r.a, aI r.r.b, aI r.r.n, aS r.r.t, .sl 1 false (r.r.ns.map txA)]
def msgA (m : Msg) : List AV := [aI m.kind, aI m.client, aI m.epoch, aI m.seq, aI m.n, aI m.stamp, aI m.c.kind, aI m.c.ino, aI m.c.dest, aI m.c.pos, aI m.c.many, aS m.c.name, aS m.c.name2, aS m.c.text]
end Go.Proofs.Ytpdedjbkfcaebaa
