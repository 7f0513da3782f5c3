import Derived.Test.YtbkmgoffiigdbabGreatDoorVUa
namespace Go.Proofs.YtbkmgoffiigdbabGreatDoor
open Go.RowKit Go.Sort
set_option maxHeartbeats 8000000
set_option maxRecDepth 100000
theorem a2b {own:Own} {mb:Nat} {g:PgR} {R:McR} {w:World} (h:A3 w own mb g R) (hp:F2 g) (hi:C1 g R.abs) :
  Calls Tryz.prog 46 #[.pointer (some ⟨mb,0,none⟩)] w fun e w'=>gP own g R w e w':=by
 have ho:=hi.heapOk hp;have c0:=h.c0;have c1:=h.c1;have c2:=h.c2;obtain⟨oa,oc,hov⟩:=C6 h.out;rw[hov] at c2;have hmb:mb < w.heap.size:=h.lt mb _ h.me;have hpos:=ho.pos;have hn:=ho.n;obtain⟨al,hal⟩:∃al,al=A0 R.abs:=⟨_,rfl⟩
 have hall:al.length≤1000:=by rw [hal];exact hi.alive_len
 have HLT:Hid (∀j,j∈al→j < R.obs.length):=fun j hj=>by
  rw[hal] at hj;have:=hi.alive.lt j hj;simpa [McR.abs] using this
 have HA:Hid (∀W,Below w.heap.size w W→Calls Tryz.prog 55 #[.pointer (some ⟨mb,0,none⟩)] W fun e w'=>Y3 al W e w'):=fun W hW=>by
  rw[hal];exact mR (h.same hW.size fun k hk=>hW.block k hk) ho
 have HS:Hid (∀W,Below w.heap.size w W→Calls Tryz.prog 34 #[.pointer (some ⟨mb,4,none⟩)] W fun e w'=>eP R.obs W e w'):=fun W hW=>tE (h.same hW.size fun k hk=>hW.block k hk) ho.n ho.pos fun o ho'=>(ho.refs o ho').2
 have HF:Hid (∀W,Below w.heap.size w W→Calls Tryz.prog 35 #[.pointer (some ⟨mb,3,none⟩)] W fun e w'=>fH R.frs W e w'):=fun W hW=>qL (h.same hW.size fun k hk=>hW.block k hk) ho.frn ho.fr
 have HDONE:Hid (∀kb S E (W1 U4 w4 V wr:World) (av sv cv hv:Value) (ol:List ObR),Pk1 w R al kb av sv ol S E W1→Below W1.heap.size W1 U4→fH R.frs U4 (.returned cv) w4→Below w4.heap.size w4 V→Pk3 (V.alloc (.cells #[.slice g.a g.n g.c,.int .i64 R.st,.slice oa R.out.length oc,cv,.slice none 0 0,.slice none 0 0] 81)) V.heap.size hv (N8 ol al) wr →
   Calls Tryz.prog 73 #[.pointer (some ⟨V.heap.size,0,none⟩),.func (.func 74) #[] #[.pointer (some ⟨kb,0,none⟩)]] wr fun e w'=>e=.returned (.tuple #[])∧gP own g R w (.returned (.pointer (some ⟨V.heap.size,0,none⟩))) w') :=
  fun kb S E W1 U4 w4 V wr av sv cv hv ol p1 hU hf hV p3=>a4M h hp hi hal p1 hU hf hV (by rw [hov];exact p3)
 obtain⟨i99,hi99,hz99,hs99,hb99⟩:=info_parts a7V;have HI:=hid hi99;have HZ:=hid hz99;have HSZ:=hid hs99;have HBY:=hid hb99;clear h hp hi ho hov hal hi99 hz99 hs99 hb99;generalize R.st=st at *
 go_enter Tryz.func46,Tryz.ntmps46;go_wp2_with fail;go_region_with (first | (go_at_call 55;refine (HA.out _ ?_).mono ?_;exact P0;rintro e w2 ⟨v2,rfl,hv2,hb2⟩;obtain ⟨aa,ac,rfl⟩:=B0 hv2;have HV2:=hid hv2;have HB2:=hid hb2;have HB2w:Hid (Below w.heap.size w w2):=A1 hb2 P0;have hs2:=HB2w.out.size;have hq2':=hb2.size;(try simp at hq2');(try rw [Nat.add_one_le_iff] at hq2');obtain ⟨hcc2,hff2⟩:=W9 hb2;clear hv2 hb2) | (go_at_call 34;refine (HS.out _ ?_).mono ?_;exact (by repeat (first | exact HB2w.out | refine Below.drew ?_ | refine Below.drewQ ?_ _ | refine Below.alloc ?_ P6 _));rintro e w3 ⟨v3,ol,rfl,r1,r2,r3,r4,hb3⟩;obtain ⟨sb,sc,rfl,_,_⟩:=r1.form hpos;have HSO:=hid (show eP R.obs _ (.returned (.slice (some ⟨sb,0,none⟩) R.obs.length sc)) w3 from ⟨_,ol,rfl,r1,r2,r3,r4,hb3⟩);have hs3:=hb3.size;(try simp at hs3);(try rw [Nat.add_one_le_iff] at hs3);have hs3':=Nat.lt_of_lt_of_le hq2' hs3;obtain ⟨hcc3,hff3⟩:=W9 hb3;clear r1 r2 r3 r4 hb3) | (go_at_call 34;refine (HS.out _ ?_).mono ?_;exact (by repeat (first | exact HB2w.out | refine Below.drew ?_ | refine Below.drewQ ?_ _ | refine Below.alloc ?_ P6 _));rintro e w3 ⟨v3,ol,rfl,r1,r2,r3,r4,hb3⟩;obtain ⟨sb,sc,rfl,_,_⟩:=r1.form hpos;have HSO:=hid (show eP R.obs _ (.returned (.slice (some ⟨sb,0,none⟩) R.obs.length sc)) w3 from ⟨_,ol,rfl,r1,r2,r3,r4,hb3⟩);have hs3:=hb3.size;(try simp at hs3);(try rw [Nat.add_one_le_iff] at hs3);obtain ⟨hcc3,hff3⟩:=W9 hb3;clear r1 r2 r3 r4 hb3))
 all_goals first | (
  obtain⟨S,E,ol1,hp1⟩:∃S E ol1,Pk1 w R al w3.heap.size (.slice aa al.length ac) (.slice (some ⟨sb,0,none⟩) R.obs.length sc) ol1 S E (w3.alloc (Obj.cells #[.slice aa al.length ac] 22)):=⟨_,_,a2g (Below.drew (Below.refl _ _)) HV2.out HB2.out (Below.refl _ _) HSO.out rfl rfl rfl Q9 (fun b hb _=>(Below.alloc (Below.refl _ _) (Nat.le_refl _) _).block b hb) Q8 Q9 (Or.inr (Or.inr (Nat.le_refl _))) Q6⟩
  obtain⟨kb,hkb⟩:∃kb,kb=w3.heap.size:=⟨_,rfl⟩
  rw[← hkb] at hp1 ⊢;generalize (w3.alloc (Obj.cells #[.slice aa al.length ac] 22))=W1 at *
  have HP1:=hid hp1;clear hp1 hkb) | (
  obtain⟨S,E,ol1,hp1⟩:∃S E ol1,Pk1 w R al w2.heap.size (.slice aa al.length ac) (.slice (some ⟨sb,0,none⟩) R.obs.length sc) ol1 S E (w3.setCell ⟨w2.heap.size,0,none⟩ (Value.slice aa al.length ac)):=⟨_,_,a2g (Below.drew (Below.refl _ _)) HV2.out HB2.out (Below.alloc (Below.refl _ _) (Nat.le_refl _) _) HSO.out rfl rfl rfl Q9 (fun b hb hne=>heap_setCell_other _ _ _ _ hne) Q8 (by simpa using hs3) (Or.inr (Or.inl ⟨Nat.le_refl _,by simp⟩)) (World.cell?_setCell_same (u:=.slice none 0 0) _ _ _ ((hcc3 w2.heap.size 0 Q9).trans Q6))⟩
  obtain⟨kb,hkb⟩:∃kb,kb=w2.heap.size:=⟨_,rfl⟩
  rw[← hkb] at hp1 ⊢;generalize (w3.setCell ⟨kb,0,none⟩ (Value.slice aa al.length ac))=W1 at *
  have HP1:=hid hp1;clear hp1 hkb) | (
  obtain⟨S,E,ol1,hp1⟩:∃S E ol1,Pk1 w R al w.heap.size (.slice aa al.length ac) (.slice (some ⟨sb,0,none⟩) R.obs.length sc) ol1 S E (w3.setCell ⟨w.heap.size,0,none⟩ (Value.slice aa al.length ac)):=⟨_,_,a2g P0 HV2.out HB2.out (Below.refl _ _) HSO.out rfl rfl rfl Q9 (fun b hb hne=>heap_setCell_other _ _ _ _ hne) (Nat.le_refl _) (by simpa using hs3') (Or.inl Q9) (World.cell?_setCell_same (u:=.slice none 0 0) _ _ _ ((hcc3 w.heap.size 0 hq2').trans ((hcc2 w.heap.size 0 Q9).trans Q6)))⟩
  obtain⟨kb,hkb⟩:∃kb,kb=w.heap.size:=⟨_,rfl⟩
  have hp1':=hp1;rw[← hkb] at hp1' ⊢;have HP1:Hid (Pk1 w R al kb (.slice aa al.length ac) (.slice (some ⟨sb,0,none⟩) R.obs.length sc) ol1 S E (w3.setCell ⟨kb,0,none⟩ (Value.slice aa al.length ac))):=by rw [hkb];exact hp1
  generalize (w3.setCell ⟨kb,0,none⟩ (Value.slice aa al.length ac))=W1 at *
  clear hp1 hp1' hkb)
 all_goals
  clear HV2 HB2 HB2w hs2 hq2' HSO hs3 hcc2 hff2 hcc3 hff3 HA HS
  (try clear hs3')
  have d0:=(HP1.out.bel.cell (p:=⟨mb,0,none⟩) hmb).trans c0;have d1:=(HP1.out.bel.cell (p:=⟨mb,1,none⟩) hmb).trans c1;have d2:=(HP1.out.bel.cell (p:=⟨mb,2,none⟩) hmb).trans c2;have hmb1:mb < W1.heap.size:=Nat.lt_of_lt_of_le hmb HP1.out.bel.size;have HF1:Hid (∀U,Below W1.heap.size W1 U→Calls Tryz.prog 35 #[.pointer (some ⟨mb,3,none⟩)] U fun e w'=>fH R.frs U e w'):=fun U hU=>HF.out U (A1 hU HP1.out.bel)
  clear c0 c1 c2 HF;go_wp2_with fail;go_region_held3 (fun u=>u.cell? ⟨mb,0,none⟩=some (.slice g.a g.n g.c)∧u.cell? ⟨mb,1,none⟩=some (.int .i64 st)∧u.cell? ⟨mb,2,none⟩=some (.slice oa R.out.length oc)) (first | go_keep | exact ⟨s0,s1,s2⟩) (first | (go_at_call 35;refine (HF1.out _ ?_).mono ?_;exact (by repeat (first | exact Below.refl _ _ | refine Below.drew ?_));rintro e w4 ⟨cv,fl,rfl,r1,r2,r3,r4,hb4⟩;obtain ⟨ca,cc,rfl⟩:=B0 r1;have HFO:=hid (show fH R.frs _ (.returned (.slice ca R.frs.length cc)) w4 from ⟨_,fl,rfl,r1,r2,r3,r4,hb4⟩);have s0:=(hb4.cell (p:=⟨mb,0,none⟩) hmb1).trans d0;have s1:=(hb4.cell (p:=⟨mb,1,none⟩) hmb1).trans d1;have s2:=(hb4.cell (p:=⟨mb,2,none⟩) hmb1).trans d2;have hb4s:=hb4.size;have hmb4:mb < w4.heap.size:=Nat.lt_of_lt_of_le hmb1 hb4.size;have HB4:Hid (Below W1.heap.size W1 w4):=A1 hb4 (by repeat (first | exact Below.refl _ _ | refine Below.drew ?_));clear r1 r2 r3 r4 hb4))
  rename_i hh
  clear hh s0 s1 s2 d0 d1 d2 hmb1 hmb4 hb4s HF1;have HPV:=hid (HP1.out.later HB4.out);obtain⟨W2,hW2⟩:∃W2,W2=w4.alloc (Obj.cells #[.slice g.a g.n g.c,.int .i64 st,.slice oa R.out.length oc,.slice ca R.frs.length cc,.slice none 0 0,.slice none 0 0] 81):=⟨_,rfl⟩
  obtain⟨pb,hpb⟩:∃pb,pb=w4.heap.size:=⟨_,rfl⟩
  have hB42:Below w4.heap.size w4 W2:=by rw [hW2];exact Below.alloc (Below.refl _ _) (Nat.le_refl _) _
  have HP2:=hid (HPV.out.later hB42);have HDN:Hid (∀(wr:World) (hv:Value),Pk3 W2 pb hv (N8 ol1 al) wr→Calls Tryz.prog 73 #[.pointer (some ⟨pb,0,none⟩),.func (.func 74) #[] #[.pointer (some ⟨kb,0,none⟩)]] wr fun e w'=>e=.returned (.tuple #[])∧gP own g R w (.returned (.pointer (some ⟨pb,0,none⟩))) w'):=fun wr hv p3=>by
   rw[hpb];refine HDONE.out kb S E W1 W1.drew w4 w4 wr _ _ _ hv ol1 HP1.out (Below.drew (Below.refl _ _)) HFO.out (Below.refl _ _) ?_;rw[← hW2,← hpb];exact p3
  have hpl:pb < W2.heap.size:=by rw [hW2,hpb];simp
  have HP30:Hid (Pk3 W2 pb (.slice none 0 0) [] W2):=⟨rfl,rfl,rfl,Nat.le_refl _,by rw [hW2,hpb];go_simp,fun _ _=>rfl,fun _=>rfl,World.ownsRow_nil _ _ _ _,fun _ _ _=>rfl⟩;have hfz:W2.frozen? ⟨pb,4,none⟩=false:=by rw [hW2,hpb];go_simp
  have hEpb:E≤pb:=by rw [hpb];exact HPV.out.sE.2.2
  have hsbp:sb < pb:=by rw [hpb];exact (HPV.out.srow.lt sb rfl).2
  rw[← hW2,← hpb];have k0:=HP2.out.k0;have hkl:=HP2.out.klt;clear hW2 hpb hB42 HPV HP1 HFO HB4 HDONE;go_wp2_with fail;go_loopw [35] (fun vi wr=>∃(i:Nat) (ha:Option Addr) (hc:Nat),i≤al.length∧vi=.int .i64 i∧Pk3 W2 pb (.slice ha i hc) (N8 ol1 (al.take i)) wr) (fun vi _=>al.length - (intOf vi).toNat)
  case atStart=>exact ⟨0,none,0,Nat.zero_le _,rfl,HP30.out⟩
  case round =>
   obtain⟨i,ha,hc,hi,rfl,hp3⟩:=hrel;clear HP30 k0;by_cases hlt:i < al.length
   ·obtain ⟨j,hj⟩:∃j,al[i]?=some j:=⟨_,List.getElem?_eq_getElem hlt⟩
    obtain⟨nb,nc,e,_,hnb⟩:=HP2.out.arow.form Q8
    cases e;have hnp:nb < pb:=by have:=(HP2.out.ab nb rfl).1;have:=HP2.out.sE;omega
    have x0:wr.cell? ⟨nb,i,none⟩=some (.int .i64 (j:Int)):=by
     rw[World.cell?_of_block (w:=W2) (a:=⟨nb,i,none⟩) (hp3.blk nb hnb Q8),HP2.out.arow.cellAt i Q8];unfold T4;rw[List.getElem?_map,hj];rfl
    have hjl:=HLT.out j (List.mem_of_getElem? hj);obtain⟨o,ho⟩:∃o,R.obs[j]?=some o:=⟨_,List.getElem?_eq_getElem hjl⟩
    obtain⟨fv,ho1,hfr,_⟩:=HP2.out.new j o ho;obtain⟨fa,fc,rfl⟩:=B0 hfr;have hsl:=(HP2.out.srow.lt sb rfl).2;have hcell:∀t,t < 2→wr.cell? ⟨sb,j*2+t,none⟩=({ o with fv:=.slice fa o.fl.length fc } : ObR).cells[t]?:=fun t ht=>by
     rw[World.cell?_of_block (w:=W2) (a:=⟨sb,j*2+t,none⟩) (hp3.blk sb hsl Q8),HP2.out.srow.cellAt _ Q8];exact C3 ObR.cells_len ho1 ht
    have y0:wr.cell? ⟨sb,j*2,none⟩=some (.int .u8 o.kind):=hcell 0 Q8;have y1:wr.cell? ⟨sb,j*2+1,none⟩=some (.slice fa o.fl.length fc):=hcell 1 Q8;have c4:=hp3.c4;have hz4:wr.frozen? ⟨pb,4,none⟩=false:=(hp3.fz 4).trans hfz;have hws:=hp3.size;have hpw:pb < wr.heap.size:=by omega
    have hnw:nb < wr.heap.size:=by omega
    have hsw:sb < wr.heap.size:=by omega
    have hlen:(N8 ol1 (al.take i)).length=i:=by unfold N8;rw [List.length_map,List.length_take];omega
    have hrow:=hp3.row;rw[hlen] at hrow;have HTK:Hid (N8 ol1 (al.take (i+1))=N8 ol1 (al.take i)++[{ o with fv:=.slice fa o.fl.length fc }]):=by
     refine hid ?_;rw[a1U hj,fQ ho1]
    have HROW:=hid hrow;have HP3:=hid hp3;have HLEN:=hid hlen;clear hrow hp3 hcell hfr ho1 ho hj hlen;generalize N8 ol1 (al.take i)=l0 at *
    go_wp2_with fail;go_region_law (first | (refine cM rfl (.tmp 44) (.tmp 49) 43 rfl W2.heap.size 75 i99 _ 2 32 Tryz.underlying43 HI.out HZ.out HSZ.out HBY.out rfl Q7 (.slice ha i hc) i (l0.flatMap ObR.cells) (by first | rfl | simp [Act.eval,Act.put]) (by repeat (first | exact HROW.out | refine World.ownsRow.drew ?_ | refine World.ownsRow.alloc ?_ _)) (some ⟨wr.heap.size,0,none⟩) 1 1 [.int .u8 o.kind,.slice fa o.fl.length fc] (by first | rfl | simp [Act.eval,Act.put]) rfl (fun _=>⟨_,rfl,World.news_of_block (cs:=#[.int .u8 o.kind,.slice fa o.fl.length fc]) (t:=75) (fr:=(0,0)) (D8 Q9)⟩) (by intro u hu;simp at hu;rcases hu with rfl | rfl <;> rfl) Q0 Q8 P9 ?_;intro v5 w5 hown5 hgrow5 _;obtain ⟨a5,c5,rfl⟩:=B0 hown5;obtain ⟨u0,u1,u2,hP5⟩:=HP3.out.step (o:={ o with fv:=.slice fa o.fl.length fc }) hpl hfz P0 hgrow5 (by rw [HLEN.out];exact hown5);have HP5:=hid hP5;clear hown5 hgrow5 hP5))
    all_goals
     clear u0 u1 u2 x0 y0 y1 c4 hz4;go_wp2_with fail;go_roundw
     case rel=>exact ⟨i+1,a5,c5,by omega,by go_num,by rw [HTK.out];exact HP5.out⟩
     case measure=>simp [intOf];omega
   ·obtain rfl:i=al.length:=by omega
    rw[List.take_length] at hp3;have HC:=hid (HDN.out _ _ hp3);clear hp3;go_wp2_with fail;refine HC.out.mono ?_;rintro e w9 ⟨rfl,h9⟩;have H9:=hid h9;clear h9;go_wp2_with fail;go_ret;exact H9.out
end Go.Proofs.YtbkmgoffiigdbabGreatDoor
