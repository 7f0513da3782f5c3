import Derived.Test.YtbkmgoffiigdbabGreatDoorWQ
namespace Go.Proofs.YtbkmgoffiigdbabGreatDoor

def a2B (k:Nat) (n:Int) (len:Nat):List (Int × Int) :=
 if k=0 then [(2,0),(0,n),(7,0),(3,0)]
 else if k=1 then [(2,0),(26,0)]
 else if k=2 then [(0,n),(17,0),(5,0)]
 else if k=3 then [(2,1),(2,2),(11,0),(26,0)]
 else if k=4 then [(2,0),(2,1),(14,1),(3,0)]
 else if k=5 then [(1,0),(3,1+n % 2)]
 else if k=6 then [(16,n),(23,0),(26,0)]
 else [(2,0),(0,n),(10,0),(13,(len:Int)+6),(16,1),(3,1)]
def a5e (x:Int) (len:Nat) (new:List (Int × Int)):List (Int × Int):=(2,x)::(25,0)::(13,((len+3+new.length:Nat):Int))::new
def a2A (k:Nat) (n:Int) (len:Nat):List (Int × Int) :=
 if k < 3 then [(16,2),(4,0),(2,1),(20,0),(3,1)]
 else if k=3 then a5e 1 len [(2,1),(19,0),(3,1)]
 else if k < 6 then a5e 1 len [(2,1),(18,0),(3,2)]
 else if k < 8 then a5e 2 len [(2,2),(24,0),(25,0),(26,0)]
 else if k=8 then a5e 1 len [(2,1),(2,n % 3),(20,1)]
 else [(0,1+n % 3),(17,0),(4,0),(0,n % 3),(2,1),(22,0),(5,0)]
def i9 (c n:Int):Int:=(if c < 0 then -(c+1) else c) % n
def a1r (c:Int) (len:Nat):List (Int × Int) :=
 if i9 c 1099511627776 % 18 < 8 then a2B (i9 c 1099511627776 % 18).toNat (i9 c 1099511627776 / 18 % 9) len
 else a2A (i9 c 1099511627776 % 18 - 8).toNat (i9 c 1099511627776 / 18 % 9) len
def A5 (R:Nat→Int):Nat→List (Int × Int)
 | 0=>[(0,0),(3,0)]
 | i+1=>A5 R i++a1r (R i) (A5 R i).length
def c0f (k:Nat) (n:Int):List (Int × Int × Int) :=
 if k=0 then [(2,0,0),(0,n,1),(7,0,2),(3,0,1)]
 else if k=1 then [(2,0,0),(26,0,1)]
 else if k=2 then [(0,n,0),(17,0,1),(5,0,1)]
 else if k=3 then [(2,1,0),(2,2,1),(11,0,2),(26,0,1)]
 else if k=4 then [(2,0,0),(2,1,1),(14,1,2),(3,0,1)]
 else if k=5 then [(1,0,0),(3,1+n % 2,1)]
 else if k=6 then [(16,n,0),(23,0,1),(26,0,1)]
 else [(2,0,0),(0,n,1),(10,0,2),(13,6,1),(16,1,0),(3,1,1)]
def c0d (x m:Int) (new:List (Int × Int × Int)):List (Int × Int × Int):=(2,x,0)::(25,0,1)::(13,3+m,1)::new
def c0e (k:Nat) (n:Int):List (Int × Int × Int) :=
 if k < 3 then [(16,2,0),(4,0,1),(2,1,2),(20,0,3),(3,1,1)]
 else if k=3 then c0d 1 3 [(2,1,0),(19,0,1),(3,1,1)]
 else if k < 6 then c0d 1 3 [(2,1,0),(18,0,1),(3,2,1)]
 else if k < 8 then c0d 2 4 [(2,2,0),(24,0,1),(25,0,1),(26,0,1)]
 else if k=8 then c0d 1 3 [(2,1,0),(2,n % 3,1),(20,1,2)]
 else [(0,1+n % 3,0),(17,0,1),(4,0,1),(0,n % 3,2),(2,1,3),(22,0,4),(5,0,1)]
def b2G (p:List (Int × Int × Int)):Bool :=
 decide (1≤p.length∧p.length≤7) && (List.range p.length).all fun j =>
  let op:=(p.getD j (0,0,0)).1
  let x:=(p.getD j (0,0,0)).2.1
  let h:=(p.getD j (0,0,0)).2.2
  let b:=h - s6 op 2+v9 op
  let hAt:=fun c:Nat=>if c < p.length then (p.getD c (0,0,0)).2.2 else 0
  decide (0≤h) && decide (s6 op 2≤h) && decide (b≤10) && decide (op≠12∧op≠15∧op≠27) && decide ((p.getD 0 (0,0,0)).2.2=0) && (hAt (j+1) == b) &&
   (if op=13 then decide (0≤x∧x≤p.length) && (hAt x.toNat == b) else m5 3 3 0 op x && (decide (op≠14) || x == 1))
theorem c1F:(List.range 8).all (fun k=>(List.range 9).all fun n=>b2G (c0f k n))=true:=by decide +kernel
theorem c1E:(List.range 10).all (fun k=>(List.range 9).all fun n=>b2G (c0e k n))=true:=by decide +kernel
end Go.Proofs.YtbkmgoffiigdbabGreatDoor
