import Derived.Test.YtbkmgoffiigdbabGreatDoorWQ
namespace Go.Proofs.YtbkmgoffiigdbabGreatDoor

def iD (k:Nat) (n:Int) (len:Nat):List (Int × Int) :=
 if k=0 then [(2,0),(0,n),(7,0),(3,0)]
 else if k=1 then [(2,0),(26,0)]
 else if k=2 then [(0,n),(17,0),(5,0)]
 else if k=3 then [(2,1),(2,2),(11,0),(26,0)]
 else if k=4 then [(2,0),(2,1),(14,1),(3,0)]
 else if k=5 then [(1,0),(3,1+n % 2)]
 else if k=6 then [(16,n),(23,0),(26,0)]
 else [(2,0),(0,n),(10,0),(13,(len:Int)+6),(16,1),(3,1)]
def mZ (x:Int) (len:Nat) (new:List (Int × Int)):List (Int × Int):=(2,x)::(25,0)::(13,((len+3+new.length:Nat):Int))::new
def iC (k:Nat) (n:Int) (len:Nat):List (Int × Int) :=
 if k < 3 then [(16,2),(4,0),(2,1),(20,0),(3,1)]
 else if k=3 then mZ 1 len [(2,1),(19,0),(3,1)]
 else if k < 6 then mZ 1 len [(2,1),(18,0),(3,2)]
 else if k < 8 then mZ 2 len [(2,2),(24,0),(25,0),(26,0)]
 else if k=8 then mZ 1 len [(2,1),(2,n % 3),(20,1)]
 else [(0,1+n % 3),(17,0),(4,0),(0,n % 3),(2,1),(22,0),(5,0)]
def D1 (c n:Int):Int:=(if c < 0 then -(c+1) else c) % n
def fB (c:Int) (len:Nat):List (Int × Int) :=
 if D1 c 1099511627776 % 18 < 8 then iD (D1 c 1099511627776 % 18).toNat (D1 c 1099511627776 / 18 % 9) len
 else iC (D1 c 1099511627776 % 18 - 8).toNat (D1 c 1099511627776 / 18 % 9) len
def K9 (R:Nat→Int):Nat→List (Int × Int)
 | 0=>[(0,0),(3,0)]
 | i+1=>K9 R i++fB (R i) (K9 R i).length
def a7b (k:Nat) (n:Int):List (Int × Int × Int) :=
 if k=0 then [(2,0,0),(0,n,1),(7,0,2),(3,0,1)]
 else if k=1 then [(2,0,0),(26,0,1)]
 else if k=2 then [(0,n,0),(17,0,1),(5,0,1)]
 else if k=3 then [(2,1,0),(2,2,1),(11,0,2),(26,0,1)]
 else if k=4 then [(2,0,0),(2,1,1),(14,1,2),(3,0,1)]
 else if k=5 then [(1,0,0),(3,1+n % 2,1)]
 else if k=6 then [(16,n,0),(23,0,1),(26,0,1)]
 else [(2,0,0),(0,n,1),(10,0,2),(13,6,1),(16,1,0),(3,1,1)]
def a6Z (x m:Int) (new:List (Int × Int × Int)):List (Int × Int × Int):=(2,x,0)::(25,0,1)::(13,3+m,1)::new
def a7a (k:Nat) (n:Int):List (Int × Int × Int) :=
 if k < 3 then [(16,2,0),(4,0,1),(2,1,2),(20,0,3),(3,1,1)]
 else if k=3 then a6Z 1 3 [(2,1,0),(19,0,1),(3,1,1)]
 else if k < 6 then a6Z 1 3 [(2,1,0),(18,0,1),(3,2,1)]
 else if k < 8 then a6Z 2 4 [(2,2,0),(24,0,1),(25,0,1),(26,0,1)]
 else if k=8 then a6Z 1 3 [(2,1,0),(2,n % 3,1),(20,1,2)]
 else [(0,1+n % 3,0),(17,0,1),(4,0,1),(0,n % 3,2),(2,1,3),(22,0,4),(5,0,1)]
def a0y (p:List (Int × Int × Int)):Bool :=
 decide (1≤p.length∧p.length≤7) && (List.range p.length).all fun j =>
  let op:=(p.getD j (0,0,0)).1
  let x:=(p.getD j (0,0,0)).2.1
  let h:=(p.getD j (0,0,0)).2.2
  let b:=h - G1 op 2+J9 op
  let hAt:=fun c:Nat=>if c < p.length then (p.getD c (0,0,0)).2.2 else 0
  decide (0≤h) && decide (G1 op 2≤h) && decide (b≤10) && decide (op≠12∧op≠15∧op≠27) && decide ((p.getD 0 (0,0,0)).2.2=0) && (hAt (j+1) == b) &&
   (if op=13 then decide (0≤x∧x≤p.length) && (hAt x.toNat == b) else D3 3 3 0 op x && (decide (op≠14) || x == 1))
theorem a8z:(List.range 8).all (fun k=>(List.range 9).all fun n=>a0y (a7b k n))=true:=by decide +kernel
theorem a8y:(List.range 10).all (fun k=>(List.range 9).all fun n=>a0y (a7a k n))=true:=by decide +kernel
end Go.Proofs.YtbkmgoffiigdbabGreatDoor
