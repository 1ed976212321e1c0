/- Two kernels of the program's in one world. -/
import Derived.Test.YtdpjgflemddekaaDoorMKeepK
import Derived.Test.YtdpjgflemddekaaDoorMRsB
set_option maxRecDepth 100000
set_option maxHeartbeats 40000000
namespace Go.Proofs.YtdpjgflemddekaaDoor
open Go.RowKit Go.Shelf
def KX (P:Nat->Prop)(w:World)(kb:Nat)(R:RS):Prop:=
 ∃S V,Ag R S/\(∀i,0<=R.ws i/\R.ws i<=4294967295)/\qq w kb S V/\(∀k,V.fd kb k->P k)
theorem KR.kx {w0 w:World}{kb:Nat}{R:RS}(h:KR w0 w kb R):KX (fun k=>w0.heap.size<=k/\k<w.heap.size) w kb R:=by
 obtain ⟨S,V,h1,h2,h3,h4,h5⟩:=h;exact ⟨S,V,h1,h2,h3,fun k hk=>⟨h4 k hk,h3.lt hk⟩⟩
theorem KX.frame {P X:Nat->Prop}{w w':World}{kb:Nat}{R:RS}(h:KX P w kb R)(hf:Fr w w' X)(hn:∀k,P k->¬X k)(h2:∀k,X k->2<=k):KX P w' kb R:=by
 obtain ⟨S,V,h1,h3,h4,h5⟩:=h;exact ⟨S,V,h1,h3,h4.frame hf (fun k hk=>hn k (h5 k hk)) h2,h5⟩
theorem KX.next {P:Nat->Prop}{w w':World}{kb:Nat}{R:RS}(h:KX P w kb R)(hf:Fr w w' (fun _=>False)):KX P w' kb R:=h.frame hf (fun _ _=>id) (fun _=>False.elim)
theorem KX.mono {P Q:Nat->Prop}{w:World}{kb:Nat}{R:RS}(h:KX P w kb R)(hq:∀k,P k->Q k):KX Q w kb R:=by
 obtain ⟨S,V,h1,h3,h4,h5⟩:=h;exact ⟨S,V,h1,h3,h4,fun k hk=>hq k (h5 k hk)⟩
theorem bv4 (w:World):Fr {w with heap:=#[]} w (fun _=>False):=⟨rfl,rfl,rfl,Nat.zero_le _,fun k hk=>absurd hk (Nat.not_lt_zero k)⟩
theorem KX.kr {P:Nat->Prop}{w:World}{kb:Nat}{R:RS}(h:KX P w kb R):KR {w with heap:=#[]} w kb R:=by
 obtain ⟨S,V,h1,h3,h4,h5⟩:=h;exact ⟨S,V,h1,h3,h4,fun k _=>Nat.zero_le k,bv4 w⟩
theorem KX.ag {P:Nat->Prop}{w:World}{kb:Nat}{R:RS}(h:KX P w kb R):∃S,Ag R S:=by
 obtain ⟨S,V,h1,_⟩:=h;exact ⟨S,h1⟩
theorem KX.doB {P:Nat->Prop}{W:World}{kb:Nat}{R:RS}(h:KX P W kb R)(c:Cl)(th:Int){av tv bv:Value}{bs:List Bool}(hA:c_ W av c.at_)(hT:c_ W tv c.to)(hal:c.at_.length<=9000000000000000000)(htl:c.to.length<=9000000000000000000)
 (hac:∀A n cap,av=.slice A n cap->n<=cap) (htc:∀A n cap,tv=.slice A n cap->n<=cap) (hB:fj W bv bs)
 (fa:0<c.at_.length->∀k,av.ownBlock=some k->¬P k) (ft:0<c.to.length->∀k,tv.ownBlock=some k->¬P k) (fb:0<bs.length->∀k,bv.ownBlock=some k->¬P k) :
 Calls Tryd.prog 12 (ie kb th c av tv bv) W
  fun e w'=>e=.returned (.tuple #[.int .i64 (ew R th c bs).1,.int .i64 (ew R th c bs).2.1])/\KX (fun k=>P k\/(W.heap.size<=k/\k<w'.heap.size)) w' kb (ew R th c bs).2.2/\Fr W w' P:=by
 obtain ⟨S,V,h1,h2,h3,h4⟩:=h;refine (b25 S V kb c av tv bv bs th W ⟨⟨h3,⟨_,h1⟩,hA,hT,hal,htl,hac,htc,fun h0 k hk e=>fa h0 k hk (h4 k e),fun h0 k hk e=>ft h0 k hk (h4 k e)⟩,hB,fun h0 k hk e=>fb h0 k hk (h4 k e)⟩ (fun i hi=>by rw [<- h1.ws i hi];exact h2 i)).mono ?_
 rintro e w' ⟨he,ho⟩;obtain ⟨g1,g2,g3,g4⟩:=od h1 th c bs;rw [<- g1,<- g2] at he;refine ⟨he,?_⟩;generalize (p_ S th c bs).2.2=S' at g3 ho;obtain ⟨V',a1,a4,a5⟩:=ho;exact ⟨⟨S',V',g3,bf5 R th c bs h2,a1,fun k hk=>(a5 k hk).elim (fun e=>.inl (h4 k e)) (fun e=>.inr ⟨e,a1.lt hk⟩)⟩,a4.mono (fun k hk=>h4 k hk)⟩
theorem KX.capsL {P:Nat->Prop}{W:World}{kb:Nat}{R:RS}(h:KX P W kb R):
 Calls Tryd.prog 16 #[.pointer (some ⟨kb,0,none⟩)] W fun e w'=>∃v,e=.returned v/\jx w' ee.vals 10 v (Proofs.YtdpjgflemddekaaDoor.capsL R)/\Fr W w' (fun _=>False):=by
 obtain ⟨S,V,h1,h2,h3,h4⟩:=h;obtain ⟨K,D⟩:=S;have hK:V.ker=K:=h3.kd.eq;subst hK;obtain ⟨F,hF⟩:=h1.core.rel.tree;obtain ⟨y,hy,hk⟩:=hF.roots;obtain ⟨x,hx,hp,hkx⟩:=pn (V:=V) (s:=nowhere) (x:=y) hy;have hcaps:=h1.core.rel.caps hF;have hl:F.slots.length=R.R.L.length:=by rw [hF.slots];simp
 refine (aq3 V kb W h3.kd.ker h3.gl F x hF.stands hx (hkx.trans hk) (fun s hs=>(ld h1.core.rel hF).1 hs) (by have:=h1.core.len;omega)).mono ?_
 rintro e w' ⟨v,he,ho,hf⟩;rw [hcaps,hl] at ho;exact ⟨v,he,el (f:=ee.vals) ee.vals_len (L:=Proofs.YtdpjgflemddekaaDoor.capsL R) (by rw [e_];exact ho),hf⟩
theorem KX.thread {P:Nat->Prop}{W:World}{kb:Nat}{R:RS}(h:KX P W kb R)(b:Int):
 Calls Tryd.prog 14 #[.pointer (some ⟨kb,0,none⟩),.int .i64 b] W fun e w'=>e=mz ((R.R.T.find? (ao b)).map gh.thd)/\Fr W w' (fun _=>False):=h.kr.thread b
theorem KX.word {P:Nat->Prop}{W:World}{kb:Nat}{R:RS}(h:KX P W kb R)(n:Int)(hn:0<=n/\n<1024):
 Calls Tryd.prog 24 #[.pointer (some ⟨kb,0,none⟩),.int .i64 n] W fun e w'=>e=.returned (.tuple #[.int .i64 (R.ws n.toNat),.int .i64 0])/\w'=W:=h.kr.word n hn
theorem KX.doomed {P:Nat->Prop}{W:World}{kb:Nat}{R:RS}(h:KX P W kb R):
 Calls Tryd.prog 17 #[.pointer (some ⟨kb,0,none⟩)] W fun e w'=>∃v,e=.returned v/\jx w' ay8 2 v R.D/\Fr W w' (fun _=>False):=h.kr.doomed
theorem by7:mu ql<=54:=by decide
theorem bc7 (c:Int):wrap64 (1+dq c 3)<=3:=by
 have:=ng c 3 (by decide);unfold wrap64;omega
theorem bh6 (l:List j8):∀i,(∃S,Ag (jl l i) S)/\mu (jl l i)<=54+54*i
 | 0=>⟨⟨_,au_⟩,by7⟩
 | i+1=>by
  obtain ⟨⟨S,h⟩,hm⟩:=bh6 l i;by_cases hi:i<l.length
  ·rw [ad8 l i hi];have h1:=(od h (bb_ (jl l i) l[i].thread) (bn1 l[i]) l[i].bits).2.2.1;have h2:=b57 h (bb_ (jl l i) l[i].thread) (bn1 l[i]) l[i].bits (bc7 _);exact ⟨⟨_,h1⟩,by unfold bf9;omega⟩
  ·have e:jl l (i+1)=jl l i:=by
    unfold jl;rw [List.take_of_length_le (by omega),List.take_of_length_le (by omega)]
   rw [e];exact ⟨⟨S,h⟩,by omega⟩
theorem bc4 (l:List j8):64+mu (jl l 300)<=19000:=by
 have:=(bh6 l 300).2;omega
theorem bz0 {S:RS}{K:KS}(h:Ag S K)(th:Int){c:Cl}(hk:rc c):(dy S th c []).1≠8:=by
 cases ht:S.R.T.find? (ao th) with
 | none=>rw [pg [] ht];exact (by decide:(1:Int)≠8)
 | some t=>
  by_cases hs:t.state=1
  ·rw [yj hk ht hs];rcases w6 h.wr t.root c with ⟨_,e⟩ | ⟨n,ix,_,_,hi,_,⟨_,e⟩ | ⟨p,hp,_,_,_,e⟩⟩
   ·rw [e];exact (by decide:(2:Int)≠8)
   ·rw [e];show (if c.kind=1 then (3:Int) else 4)≠8;split<;>decide
   ·rw [e];split
    ·have hn:∀m,(ax m []).2.2=true:=by
      intro m;have:(ax m []).2=([],true):=js _ _;rw [this]
     unfold ey;split
     ·exact (by decide:(3:Int)≠8)
     ·split
      ·exact (by decide:(7:Int)≠8)
      ·split
       ·exact (by decide:(2:Int)≠8)
       ·split
        ·exact (by decide:(2:Int)≠8)
        ·split
         ·exact (by decide:(4:Int)≠8)
         ·split
          ·rw [if_pos (hn _)];exact ad1 _ _ _ _ _ _ _
          ·exact ad1 _ _ _ _ _ _ _
    ·split
     ·rw [sl];exact (by decide:(0:Int)≠8)
     ·rw [(mb n ix hi F1 [] h.wr (ai5 h.wr)).1];decide
  ·rw [ph [] ht hs];exact (by decide:(1:Int)≠8)
theorem aq4 (S:RS)(th:Int){c:Cl}(bs:List Bool)(hk:rc c):ew S th c bs=(0,dy S th c bs):=by
 have hk':c.kind=1\/c.kind=5\/c.kind=6:=hk;unfold ew;rw [if_neg (by omega)]
def iV (l:List Int):List Value:=l.map (fun x=>.int .i64 x)
theorem bc1 (a b:List Int):iV (a++b)=iV a++iV b:=List.map_append
theorem be5 (l:List Int):∀u∈iV l,u.oneCell'=true:=by
 intro u hu;obtain ⟨x,_,rfl⟩:=List.mem_map.1 hu;rfl
def bv8 (a:ee):List Int:=[a.node,a.index,a.ty,a.base,a.bits,a.rights,a.badge,a.mark,a.parent,a.place]
def bp3 (d:Int×Int):List Int:=[d.1,d.2]
def b42:Option mg->List Int
 | some t=>[t.state,t.root,t.value,t.badge,t.err,0]
 | none=>[0,0,0,0,0,1]
def bo0 (R:RS)(n:Nat):List Int:=R.ws n :: b42 ((R.R.T.find? (ao n)).map gh.thd)
def aa4 (R:RS)(i:Nat):List Int:=((capsL R).take i).flatMap bv8
def uu (R:RS)(i:Nat):List Int:=aa4 R (capsL R).length++(R.D.take i).flatMap bp3
def vn (R:RS)(n:Nat):List Int:=uu R R.D.length++(List.range n).flatMap (bo0 R)
def ak_ (R:RS):List Int:=vn R 1024
theorem bd2 (R:RS)(i:Nat)(h:i<(capsL R).length):aa4 R (i+1)=aa4 R i++bv8 (capsL R)[i]:=by
 unfold aa4;rw [List.take_succ_eq_append_getElem h,List.flatMap_append];simp
theorem bb0 (R:RS)(i:Nat)(h:i<R.D.length):uu R (i+1)=uu R i++bp3 R.D[i]:=by
 unfold uu;rw [List.take_succ_eq_append_getElem h,List.flatMap_append];simp
theorem ba7 (R:RS):uu R 0=aa4 R (capsL R).length:=by simp [uu]
theorem a87 (R:RS)(n:Nat):vn R (n+1)=vn R n++bo0 R n:=by
 unfold vn;rw [List.range_succ,List.flatMap_append];simp
theorem bc3 (R:RS):vn R 0=uu R R.D.length:=by simp [vn]
theorem bj5 (ot:Option mg):∃s r v b e f:Int,mz ot=.returned (.tuple #[.agg #[.int .i64 s,.int .i64 r,.int .i64 v,.int .i64 b,.int .i64 e],.int .i64 f])/\Hid (b42 ot=[s,r,v,b,e,f]):=by
 cases ot with
 | none=>exact ⟨_,_,_,_,_,_,rfl,by show _=_;rfl⟩
 | some t=>exact ⟨_,_,_,_,_,_,rfl,by show _=_;rfl⟩
theorem KX.doomedB {P:Nat->Prop}{W:World}{kb:Nat}{R:RS}(h:KX P W kb R):
 Calls Tryd.prog 17 #[.pointer (some ⟨kb,0,none⟩)] W fun e w'=>∃v,e=.returned v/\jx w' ay8 2 v R.D/\(∀k,v.ownBlock=some k->W.heap.size<=k/\k<w'.heap.size)/\Fr W w' (fun _=>False):=by
 obtain ⟨⟨K,D⟩,V,h1,h2,h3,h4⟩:=h;have hD:D=R.D:=h1.d;have hlD:=h1.core.lenD;refine (ae4 ⟨K,D⟩ V kb W h3.kd (by simp only [hD];omega)).mono ?_;rintro e w' ⟨v,he,hv,hf⟩;simp only [hD] at hv;exact ⟨v,he,el (f:=ay8) (fun _=>rfl) hv,fun k hk=>hv.lt k hk,hf⟩
theorem b37 {w:World}{g:Nat}{L:List (Int×Int)}(h:∀i (hi:i<L.length) j x,(ay8 L[i])[j]?=some x->w.cell? ⟨g,i*2+j,none⟩=some x)(i:Nat)(hi:i<L.length):w.cell? ⟨g,i*2,none⟩=some (.int .i64 L[i].1)/\w.cell? ⟨g,i*2+1,none⟩=some (.int .i64 L[i].2):=
 ⟨h i hi 0 _ rfl,h i hi 1 _ rfl⟩
theorem ab7 {P:Nat->Prop}{W:World}{kb:Nat}{R:RS}(h:KX P W kb R):
 Calls Tryd.prog 22 #[.pointer (some ⟨kb,0,none⟩)] W fun e w'=>∃v,e=.returned v/\w'.ownsRow W.heap.size 3 1 v (ak_ R).length (iV (ak_ R))/\Fr W w' (fun _=>False):=by
 obtain ⟨S,hag⟩:=h.ag;obtain ⟨hnA,hnD⟩:=hag.lenL;clear hag;obtain ⟨iI,hiI,hI0,hI1,hI2⟩:=info_parts a67;have hdo:=fun W' (hf:Fr W W' (fun _=>False))=>(h.next hf).doomedB
 have hwd:=fun W' (hf:Fr W W' (fun _=>False)) (n:Nat) (hn:n<1024)=>(h.next hf).word n ⟨by omega,by omega⟩
 have hth:=fun W' (hf:Fr W W' (fun _=>False)) (b:Int)=>(h.next hf).thread b
 go_enter Tryd.func22,Tryd.ntmps22
 go_upto_region 3 with (go_at_call 16;refine h.capsL.mono ?_;rintro e W1 ⟨vl,rfl,hvl,hf1⟩)
 obtain ⟨AL,capL,rfl,hLc⟩:=hvl;clear h;go_wp2;go_loopw [3,5] (fun ov iv w'=>Fr W1 w' (fun _=>False)/\∃i:Nat,∃l:List Int,i<=(capsL R).length/\iv=.int .i64 i/\Hid (l=aa4 R i)/\l.length<=10*i/\w'.ownsRow W1.heap.size 3 1 ov l.length (iV l)) (fun _ iv _=>(capsL R).length-(intOf iv).toNat)
 case atStart=>exact ⟨Fr.refl _ _,0,[],Nat.zero_le _,rfl,(by show _=_;rfl),by simp,World.ownsRow_nil _ _ _ _⟩
 case round=>
  obtain ⟨hf,i,l,hi,rfl,HL,hl,ho⟩:=hrel;by_cases hlt:i<(capsL R).length
  ·obtain ⟨gl,rfl,hcL⟩:=hLc (by omega);obtain ⟨r0,r1,r2,r3,r4,r5,r6,r7,r8,r9⟩:=mr hcL i hlt;have rW:=r0;have HN:Hid (aa4 R (i+1)=aa4 R i++bv8 (capsL R)[i]):=bd2 R i hlt;unfold bv8 at HN;clear hcL hLc hdo hwd hth;generalize (capsL R)[i].node=n0 at *
   generalize (capsL R)[i].index=n1 at *
   generalize (capsL R)[i].ty=n2 at *
   generalize (capsL R)[i].base=n3 at *
   generalize (capsL R)[i].bits=n4 at *
   generalize (capsL R)[i].rights=n5 at *
   generalize (capsL R)[i].badge=n6 at *
   generalize (capsL R)[i].mark=n7 at *
   generalize (capsL R)[i].parent=n8 at *
   generalize (capsL R)[i].place=n9 at *
   replace r0:=hf.cell r0 id;replace r1:=hf.cell r1 id;replace r2:=hf.cell r2 id;replace r3:=hf.cell r3 id;replace r4:=hf.cell r4 id;replace r5:=hf.cell r5 id;replace r6:=hf.cell r6 id;replace r7:=hf.cell r7 id;replace r8:=hf.cell r8 id;replace r9:=hf.cell r9 id;obtain ⟨A,cap,hlv⟩:=ed ho;subst hlv;have hfa:=(Fr.refl wr (fun _=>False)).alloc (.cells #[.int .i64 n2,.int .i64 n3,.int .i64 n4,.int .i64 n5,.int .i64 n6,.int .i64 n7] 51);have hba:=heap_alloc_new wr (.cells #[.int .i64 n2,.int .i64 n3,.int .i64 n4,.int .i64 n5,.int .i64 n6,.int .i64 n7] 51);go_upto_region 7 with fail
   have hF5:=hf.step hfa (fun _=>False.elim);have ho5:=hfa.owns ho (fun _ _=>id);generalize wr.alloc _=W5 at hfa hba hF5 ho5 ⊢;generalize hBce:wr.heap.size=Bc at hba ⊢;replace r0:=hfa.cell r0 id;replace r1:=hfa.cell r1 id;replace r8:=hfa.cell r8 id;replace r9:=hfa.cell r9 id;obtain ⟨c0,c1,c2,c3,c4,c5⟩:=af9 hba;have hBcl:∀k,(Value.slice A l.length cap).ownBlock=some k->k<Bc:=fun k hk=>by have:=(ho.lt k hk).2;omega
   have hgl1:gl<W1.heap.size:=World.block_lt_of_cell? _ _ rW;clear r2 r3 r4 r5 r6 r7 hba hfa hf ho rW hBce;have hsz5:=hF5.size;have nl:∀k,(Value.slice A l.length cap).ownBlock=some k->¬k=gl/\¬k=Bc:=fun k hk=>⟨fun e=>by have:=(ho5.lt k hk).1;omega,fun e=>by have:=hBcl k hk;omega⟩
   have hkA:∀o:Obj,(W5.drew.alloc o).cell? ⟨gl,i*10,none⟩=some (.int .i64 n0)/\(W5.drew.alloc o).cell? ⟨gl,i*10+1,none⟩=some (.int .i64 n1)/\(W5.drew.alloc o).cell? ⟨gl,i*10+8,none⟩=some (.int .i64 n8)/\(W5.drew.alloc o).cell? ⟨gl,i*10+9,none⟩=some (.int .i64 n9)/\(W5.drew.alloc o).cell? ⟨Bc,0,none⟩=some (.int .i64 n2)/\(W5.drew.alloc o).cell? ⟨Bc,1,none⟩=some (.int .i64 n3)/\(W5.drew.alloc o).cell? ⟨Bc,2,none⟩=some (.int .i64 n4)/\(W5.drew.alloc o).cell? ⟨Bc,3,none⟩=some (.int .i64 n5)/\(W5.drew.alloc o).cell? ⟨Bc,4,none⟩=some (.int .i64 n6)/\(W5.drew.alloc o).cell? ⟨Bc,5,none⟩=some (.int .i64 n7):=fun o=>by
    have hf:=((Fr.refl W5 (fun _=>False)).drew).alloc o;exact ⟨hf.cell r0 id,hf.cell r1 id,hf.cell r8 id,hf.cell r9 id,hf.cell c0 id,hf.cell c1 id,hf.cell c2 id,hf.cell c3 id,hf.cell c4 id,hf.cell c5 id⟩
   go_region_held3 (fun w'=>w'.cell? ⟨gl,i*10,none⟩=some (.int .i64 n0)/\w'.cell? ⟨gl,i*10+1,none⟩=some (.int .i64 n1)/\w'.cell? ⟨gl,i*10+8,none⟩=some (.int .i64 n8)/\w'.cell? ⟨gl,i*10+9,none⟩=some (.int .i64 n9)/\w'.cell? ⟨Bc,0,none⟩=some (.int .i64 n2)/\w'.cell? ⟨Bc,1,none⟩=some (.int .i64 n3)/\w'.cell? ⟨Bc,2,none⟩=some (.int .i64 n4)/\w'.cell? ⟨Bc,3,none⟩=some (.int .i64 n5)/\w'.cell? ⟨Bc,4,none⟩=some (.int .i64 n6)/\w'.cell? ⟨Bc,5,none⟩=some (.int .i64 n7)) ((first | go_keep | exact hkA _ | exact hk8))
    ((refine step_append_lies _ rfl _ _ 22 rfl W1.heap.size 3 iI _ 1 8 Tryd.underlying22 hiI hI0 hI1 hI2 rfl (by decide) (.slice A l.length cap) _ _ rfl (World.ownsRow.alloc ho5 _) ⟨_,0,none⟩ 10 10 [.int .i64 n0,.int .i64 n1,.int .i64 n2,.int .i64 n3,.int .i64 n4,.int .i64 n5,.int .i64 n6,.int .i64 n7,.int .i64 n8,.int .i64 n9] rfl rfl (p6 _ _ _) (be5 [n0,n1,n2,n3,n4,n5,n6,n7,n8,n9]) (by decide) (by unfold maxLen;omega) (by omega) (by simp;omega) (W5.heap.size+1) (by simp) ?_;intro g8 cap8 W8 hown8 hg8 hat8 hlt8
      have hf8:Fr W1 W8 (fun _=>False):=((hF5.drew).alloc (.cells #[.int .i64 n0,.int .i64 n1,.int .i64 n2,.int .i64 n3,.int .i64 n4,.int .i64 n5,.int .i64 n6,.int .i64 n7,.int .i64 n8,.int .i64 n9] 3)).grown hg8 (fun r hr=>.inr (ho5.lt r hr).1)
      have hs8:Fr W5 W8 (fun k=>(Value.slice A l.length cap).ownBlock=some k):=(((Fr.refl W5 (fun k=>(Value.slice A l.length cap).ownBlock=some k)).drew).alloc (.cells #[.int .i64 n0,.int .i64 n1,.int .i64 n2,.int .i64 n3,.int .i64 n4,.int .i64 n5,.int .i64 n6,.int .i64 n7,.int .i64 n8,.int .i64 n9] 3)).grown hg8 (fun r hr=>.inl hr)
      have hk8:W8.cell? ⟨gl,i*10,none⟩=some (.int .i64 n0)/\W8.cell? ⟨gl,i*10+1,none⟩=some (.int .i64 n1)/\W8.cell? ⟨gl,i*10+8,none⟩=some (.int .i64 n8)/\W8.cell? ⟨gl,i*10+9,none⟩=some (.int .i64 n9)/\W8.cell? ⟨Bc,0,none⟩=some (.int .i64 n2)/\W8.cell? ⟨Bc,1,none⟩=some (.int .i64 n3)/\W8.cell? ⟨Bc,2,none⟩=some (.int .i64 n4)/\W8.cell? ⟨Bc,3,none⟩=some (.int .i64 n5)/\W8.cell? ⟨Bc,4,none⟩=some (.int .i64 n6)/\W8.cell? ⟨Bc,5,none⟩=some (.int .i64 n7):=⟨hs8.cell r0 (fun e=>(nl _ e).1 rfl),hs8.cell r1 (fun e=>(nl _ e).1 rfl),hs8.cell r8 (fun e=>(nl _ e).1 rfl),hs8.cell r9 (fun e=>(nl _ e).1 rfl),hs8.cell c0 (fun e=>(nl _ e).2 rfl),hs8.cell c1 (fun e=>(nl _ e).2 rfl),hs8.cell c2 (fun e=>(nl _ e).2 rfl),hs8.cell c3 (fun e=>(nl _ e).2 rfl),hs8.cell c4 (fun e=>(nl _ e).2 rfl),hs8.cell c5 (fun e=>(nl _ e).2 rfl)⟩))
   all_goals
    have e1:iV l++[.int .i64 n0,.int .i64 n1,.int .i64 n2,.int .i64 n3,.int .i64 n4,.int .i64 n5,.int .i64 n6,.int .i64 n7,.int .i64 n8,.int .i64 n9]=iV (l++[n0,n1,n2,n3,n4,n5,n6,n7,n8,n9]):=(bc1 l [n0,n1,n2,n3,n4,n5,n6,n7,n8,n9]).symm;rw [e1] at hown8;clear hg8 hat8 hlt8 ho5 c0 c1 c2 c3 c4 c5 r0 r1 r8 r9 hk8 hkA nl hs8;go_wp2;go_roundw;case rel=>exact ⟨hf8,i+1,l++[n0,n1,n2,n3,n4,n5,n6,n7,n8,n9],hlt,by go_num,(by show _=_;rw [HN.out,HL.out]),by simp;omega,by rw [List.length_append];exact hown8⟩
    case measure=>simp [intOf];omega
  ·have hie:i=(capsL R).length:=by omega
   subst hie;have hF:=hf1.step hf (fun _=>False.elim);have hdo2:=hdo _ hF;clear hdo hLc;obtain ⟨A,cap,hlv⟩:=ed ho;subst hlv;go_upto_region 9 with (go_at_call 17;refine hdo2.mono ?_;rintro e W3 ⟨vd,rfl,hvd,hdk,hf3⟩)
   have ho3:=hf3.owns ho (fun _ _=>id);have hap:∀k,(Value.slice A l.length cap).ownBlock=some k->vd.ownBlock≠some k:=fun k hk e=>by
    have:=(ho.lt k hk).2;have:=(hdk k e).1;omega
   have hdl:∀k,vd.ownBlock=some k->k<W3.heap.size:=fun k hk=>(hdk k hk).2
   have hF3:=hf.step hf3 (fun _=>False.elim);have HB0:Hid (l=uu R 0):=by show _=_;rw [ba7];exact HL.out
   clear hdo2 hf hdk ho hF HL;go_wp2;go_loopw [3,8] (fun ov iv w'=>Fr W1 w' (fun _=>False)/\jx w' ay8 2 vd R.D/\W3.heap.size<=w'.heap.size/\(∀k,ov.ownBlock=some k->vd.ownBlock≠some k)/\∃i:Nat,∃l:List Int,i<=R.D.length/\iv=.int .i64 i/\Hid (l=uu R i)/\l.length<=10000000+2*i/\w'.ownsRow W1.heap.size 3 1 ov l.length (iV l)) (fun _ iv _=>R.D.length-(intOf iv).toNat)
   case atStart=>exact ⟨hF3,hvd,Nat.le_refl _,hap,0,l,Nat.zero_le _,rfl,HB0,by omega,ho3⟩
   case round=>
    clear hF3 hvd hap HB0 ho3 hl;obtain ⟨hf,hvd,hsz,hap,i,l,hi,rfl,HL,hl,ho⟩:=hrel;obtain ⟨A,cap,hlv⟩:=ed ho;subst hlv;obtain ⟨AD,capD,rfl,hDc⟩:=id hvd;by_cases hlt:i<R.D.length
    ·obtain ⟨gd,rfl,hcD⟩:=hDc (by omega);obtain ⟨r0,r1⟩:=b37 hcD i hlt;have HN:Hid (uu R (i+1)=uu R i++bp3 R.D[i]):=bb0 R i hlt;unfold bp3 at HN;generalize R.D[i].1=n0 at *
     generalize R.D[i].2=n1 at *
     have hsz5:=hf.size;have hgd:gd<wr.heap.size:=Nat.lt_of_lt_of_le (hdl gd rfl) hsz;clear hcD hDc hwd hth;go_upto_region 12 with fail
     go_region_law
      ((refine step_append_lies _ rfl _ _ 22 rfl W1.heap.size 3 iI _ 1 8 Tryd.underlying22 hiI hI0 hI1 hI2 rfl (by decide) (.slice A l.length cap) _ _ rfl (World.ownsRow.alloc ho _) ⟨_,0,none⟩ 2 2 [.int .i64 n0,.int .i64 n1] rfl rfl (p6 _ _ _) (be5 [n0,n1]) (by decide) (by unfold maxLen;omega) (by omega) (by simp;omega) (wr.heap.size+1) (by simp) ?_);intro g8 cap8 W8 hown8 hg8 hat8 hlt8
       have hf8:Fr W1 W8 (fun _=>False):=((hf.drew).alloc (.cells #[.int .i64 n0,.int .i64 n1] 3)).grown hg8 (fun r hr=>.inr (ho.lt r hr).1)
       have hs8:Fr wr W8 (fun k=>(Value.slice A l.length cap).ownBlock=some k):=(((Fr.refl wr (fun k=>(Value.slice A l.length cap).ownBlock=some k)).drew).alloc (.cells #[.int .i64 n0,.int .i64 n1] 3)).grown hg8 (fun r hr=>.inl hr))
     all_goals
      have e1:iV l++[.int .i64 n0,.int .i64 n1]=iV (l++[n0,n1]):=(bc1 l [n0,n1]).symm;rw [e1] at hown8;have hvd8:=hvd.frk hs8 (fun k hk e=>hap k e hk);have hap8:∀k,(Value.slice (some ⟨g8,0,none⟩) (l.length+2) cap8).ownBlock=some k->(Value.slice (some ⟨gd,0,none⟩) R.D.length capD).ownBlock≠some k:=by
       intro k hk e;have h1:g8=k:=by simpa [Value.ownBlock] using hk
       have h2:gd=k:=by simpa [Value.ownBlock] using e
       rcases hat8 with h3 | h3
       ·exact hap k (by rw [h3,h1]) e
       ·omega
      have hsz8:=Nat.le_trans hsz hs8.size;clear hg8 hat8 hlt8 ho r0 r1 hs8 hvd hap;go_wp2;go_roundw;case rel=>exact ⟨hf8,hvd8,hsz8,hap8,i+1,l++[n0,n1],hlt,by go_num,(by show _=_;rw [HN.out,HL.out]),by simp;omega,by rw [List.length_append];exact hown8⟩
      case measure=>simp [intOf];omega
    ·have hie:i=R.D.length:=by omega
     subst hie;have HC0:Hid (l=vn R 0):=by show _=_;rw [bc3];exact HL.out
     clear hDc hvd hap hdl HL;go_wp2;go_loopw [3,9] (fun ov iv w'=>Fr W1 w' (fun _=>False)/\∃i:Nat,∃l:List Int,i<=1024/\iv=.int .i64 i/\Hid (l=vn R i)/\l.length<=12000000+7*i/\w'.ownsRow W1.heap.size 3 1 ov l.length (iV l)) (fun _ iv _=>1024-(intOf iv).toNat)
     case atStart=>exact ⟨hf,0,l,Nat.zero_le _,rfl,HC0,by omega,ho⟩
     case round=>
      clear hf HC0 hl ho;obtain ⟨hf,i,l,hi,rfl,HL,hl,ho⟩:=hrel;obtain ⟨A,cap,hlv⟩:=ed ho;subst hlv;have hF:=hf1.step hf (fun _=>False.elim);by_cases hlt:i<1024
      ·have hw:=hwd _ hF i hlt;rw [Int.toNat_natCast] at hw;have ht:=fun W' hW'=>hth W' hW' (i:Int)
       have HN:Hid (vn R (i+1)=vn R i++bo0 R i):=a87 R i;unfold bo0 at HN;generalize R.ws i=n0 at *
       generalize (R.R.T.find? (ao (i:Int))).map gh.thd=ot at *
       obtain ⟨n1,n2,n3,n4,n5,n6,hta,HT⟩:=bj5 ot;rw [HT.out] at HN;simp only [hta] at ht;clear hta HT hwd hth;have hsz5:=hf.size;go_upto_region 17 with (go_at_call 24;refine hw.mono ?_;rintro e w4 ⟨rfl,he4⟩;obtain rfl:=he4.symm)
       go_upto_region 18 with (go_at_call 14;refine (ht _ hF).mono ?_;rintro e W4 ⟨rfl,hf4⟩)
       have hfa:=hf4.alloc (.cells #[.int .i64 n1,.int .i64 n2,.int .i64 n3,.int .i64 n4,.int .i64 n5] 33);have hba:=heap_alloc_new W4 (.cells #[.int .i64 n1,.int .i64 n2,.int .i64 n3,.int .i64 n4,.int .i64 n5] 33);have hF5:=hf.step hfa (fun _=>False.elim);have ho5:=hfa.owns ho (fun _ _=>id);generalize W4.alloc _=W5 at hfa hba hF5 ho5 ⊢;generalize W4.heap.size=Bc at hba ⊢;obtain ⟨c0,c1,c2,c3,c4⟩:=bk5 hba;have hsz6:=hF5.size;clear hba hfa hf ho hf4 ht hw;go_wp2_with (at_builtin;go_must (refine wpList_append_lies _ rfl _ _ 22 rfl W1.heap.size 3 iI _ 1 8 Tryd.underlying22 hiI hI0 hI1 hI2 rfl (by decide) (.slice A l.length cap) l.length (iV l) rfl (World.ownsRow.alloc ho5 _) ⟨_,0,none⟩ 7 7 [.int .i64 n0,.int .i64 n1,.int .i64 n2,.int .i64 n3,.int .i64 n4,.int .i64 n5,.int .i64 n6] rfl rfl (p6 _ _ _) (be5 [n0,n1,n2,n3,n4,n5,n6]) (by decide) (by unfold maxLen;omega) (by omega) (by simp;omega) _ rfl ?_);intro g8 cap8 W8 hown8 hg8 hat8 hlt8)
       have hf8:Fr W1 W8 (fun _=>False):=(hF5.alloc (.cells #[.int .i64 n0,.int .i64 n1,.int .i64 n2,.int .i64 n3,.int .i64 n4,.int .i64 n5,.int .i64 n6] 3)).grown hg8 (fun r hr=>.inr (ho5.lt r hr).1)
       have e1:iV l++[.int .i64 n0,.int .i64 n1,.int .i64 n2,.int .i64 n3,.int .i64 n4,.int .i64 n5,.int .i64 n6]=iV (l++[n0,n1,n2,n3,n4,n5,n6]):=(bc1 l [n0,n1,n2,n3,n4,n5,n6]).symm;rw [e1] at hown8;clear hg8 hat8 hlt8 ho5 c0 c1 c2 c3 c4;go_wp2;go_roundw;case rel=>exact ⟨hf8,i+1,l++[n0,n1,n2,n3,n4,n5,n6],hlt,by go_num,(by show _=_;rw [HN.out,HL.out]),by simp;omega,by rw [List.length_append];exact hown8⟩
       case measure=>simp [intOf];omega
      ·have hie:i=1024:=by omega
       subst hie;have e:l=ak_ R:=HL.out;have hres:wr.ownsRow W.heap.size 3 1 (.slice A l.length cap) (ak_ R).length (iV (ak_ R)):=by rw [<- e];exact aq7 ho hf1.size
       clear ho e;go_wp2;go_ret;exact ⟨_,rfl,hres,hF⟩
theorem l6 {w:World}{b:Nat}{v:Value}{l:List Int}(h:w.ownsRow b 3 1 v l.length (iV l)):c_ w v l:=by
 obtain ⟨A,cap,rfl⟩:=ed h;refine ⟨A,cap,rfl,fun h0=>?_⟩
 obtain ⟨g,cap',e,hg,hb⟩:=h.form h0;cases e
 refine ⟨g,0,rfl,fun i hi=>?_⟩
 have:=(h.cells rfl) i (.int .i64 l[i]) (by simp [iV,hi]);simpa [am_] using this
theorem a82 (l:List Int)(va vb:Value)(w:World)(hn:l.length<=100000000)(ha:c_ w va l)(hb:c_ w vb l):
 Calls Tryd.prog 23 #[va,vb] w fun e w'=>e=.returned (.bool true)/\∃m,w'=w.drewN m:=by
 obtain ⟨PA,capA,rfl,hA⟩:=ha;obtain ⟨PB,capB,rfl,hB⟩:=hb;go_enter Tryd.func23,Tryd.ntmps23
 go_wp2;go_loopw [5] (fun iv w'=>∃i m:Nat,i<=l.length/\iv=.int .i64 i/\w'=w.drewN m) (fun iv _=>l.length-(intOf iv).toNat)
 case atStart=>exact ⟨0,0,Nat.zero_le _,rfl,rfl⟩
 case round=>
  obtain ⟨i,mm,hi,rfl,rfl⟩:=hrel;by_cases hlt:i<l.length
  ·obtain ⟨ga,oa,rfl,hca⟩:=hA (by omega);obtain ⟨gb,ob,rfl,hcb⟩:=hB (by omega);have ra:=ah (hca i hlt) mm;have rb:=ah (hcb i hlt) mm;generalize l[i]=x at ra rb;have hfin:∀x,∃m',(w.drewN mm).drewN x=w.drewN m':=fun x=>⟨mm+x,o9 w mm x⟩
   clear hA hB hca hcb;generalize w.drewN mm=W13 at ra rb hfin ⊢;go_upto_region 6 with fail
   go_cut [25] (fun bv wx=>bv=.bool false/\∃m,wx=w.drewN m)
   case first=>
    go_quiet (fail)
    go_wp2_with fail
    go_meet;exact ⟨by first | rfl | simp,hfin _⟩
   case rest=>
    obtain ⟨rfl,m2,hw⟩:=hcut;obtain rfl:=hw.symm;go_wp2;go_roundw;case rel=>exact ⟨i+1,m2,hlt,by simp,rfl⟩
    case measure=>simp only [intOf];omega
  ·have hie:i=l.length:=by omega
   subst hie;go_wp2;go_ret;exact ⟨rfl,mm,rfl⟩
theorem ag_.fr {l:List j8}{w w':World}{kb:Nat}(h:ag_ l w kb w'):Fr w w' (fun _=>False):=by
 obtain ⟨W1,h1,_,h2⟩:=h;exact h1.step h2.base (fun _=>False.elim)
def bh1 (w:World)(v:Value)(ll:List (List Bool)):Prop:=
 ∃P cap,v=.slice P ll.length cap/\(0<ll.length->∃g o,P=some ⟨g,o,none⟩/\∀i (hi:i<ll.length),∃bv,w.cell? ⟨g,o+i,none⟩=some bv/\fj w bv ll[i])
def Qn (Py:Nat->Prop)(s:Nat)(w:World):Nat->Prop:=fun k=>Py k\/(s<=k/\k<w.heap.size)
theorem fj.frk {w w':World}{v:Value}{l:List Bool}{S:Nat->Prop}(h:fj w v l)(hf:Fr w w' S)(hs:0<l.length->∀k,v.ownBlock=some k->¬S k):fj w' v l:=by
 obtain ⟨A,cap,e,h1,hA⟩:=h;refine ⟨A,cap,e,h1,fun h0=>?_⟩
 obtain ⟨g,o,e2,hc⟩:=hA h0;exact ⟨g,o,e2,fun i hi=>hf.cell (hc i hi) (hs h0 g (by rw [e,e2];rfl))⟩
theorem bk0 (w:World)(b:Nat){t:TypeId}(h:w.heap[b]?=some (.cells #[.bool true] t (0,0))):fj w (.slice (some ⟨b,0,none⟩) 1 1) [true]:=by
 refine ⟨_,_,rfl,Nat.le_refl _,fun _=>⟨b,0,rfl,fun i hi=>?_⟩⟩
 have:i=0:=by simpa using hi
 subst this;exact aa (o:=0) h rfl
theorem bn_ {Py:Nat->Prop}{W7 w' W:World}{kb:Nat}{Ry:RS}(hf7:Fr W7 w' Py)(hK:KX (Qn Py W7.heap.size w') w' kb Ry)(hf:Fr w' W (fun _=>False))(c:Cl)(hk:rc c)(th:Int){av tv bv:Value}{bs:List Bool}(hA:c_ W7 av c.at_)(hT:c_ W7 tv c.to)(hal:c.at_.length<=2)(htl:c.to.length<=2)
 (hac:∀A n cap,av=.slice A n cap->n<=cap) (htc:∀A n cap,tv=.slice A n cap->n<=cap) (fa:∀k,av.ownBlock=some k->¬Py k) (ft:∀k,tv.ownBlock=some k->¬Py k) (hB:fj W bv bs) (fb:0<bs.length->∀k,bv.ownBlock=some k->¬Qn Py W7.heap.size w' k) :
 Calls Tryd.prog 12 (ie kb th c av tv bv) W
  fun e w''=>e=.returned (.tuple #[.int .i64 0,.int .i64 (dy Ry th c bs).1])/\Fr W7 w'' Py/\KX (Qn Py W7.heap.size w'') w'' kb (dy Ry th c bs).2:=by
 have hF:=hf7.step hf (fun _=>False.elim);have h:=(hK.next hf).doB c th (hA.frk hF (fun _=>fa)) (hT.frk hF (fun _=>ft)) (by omega) (by omega) hac htc hB
  (fun h0 k hk e=>e.elim (fa k hk) (fun e=>by have:=hA.ltk h0 k hk;omega)) (fun h0 k hk e=>e.elim (ft k hk) (fun e=>by have:=hT.ltk h0 k hk;omega)) fb
 rw [aq4 Ry th bs hk] at h;refine h.mono ?_;rintro e w'' ⟨he,h1,h2⟩;have hs:=hf.size;have hs2:=h2.size;have hs7:=hF.size;refine ⟨he,hF.step h2 (fun k hk=>hk.elim .inl (fun e=>.inr e.1)),h1.mono (fun k hk=>?_)⟩
 rcases hk with (e | e) | e
 ·exact .inl e
 ·exact .inr ⟨e.1,by omega⟩
 ·exact .inr ⟨by omega,e.2⟩
def vu (th:Int)(c:Cl)(R0 Ry:RS)(n:Nat)(f:Int):Prop:=
 n<=19001/\((f=8/\Rsm th c R0 Ry n)\/(f≠8/\(f=1\/f=2\/(Ry=(dy R0 th c []).2/\(f=(dy R0 th c []).1\/(c.kind=5/\f=4/\(dy R0 th c []).1=0))))))
theorem vu.start {R0:RS}{K:KS}(h:Ag R0 K)(th:Int)(c:Cl):vu th c R0 R0 0 8:=⟨by omega,.inl ⟨rfl,Rsm.start h th c⟩⟩
theorem vu.next {th:Int}{c:Cl}{R0 Ry:RS}{n:Nat}{K:KS}(hs:vu th c R0 Ry n 8)(h:Ag Ry K)(hk:rc c)(hm:64+mu R0<=19000)(bs:List Bool):vu th c R0 (dy Ry th c bs).2 (n+1) (dy Ry th c bs).1:=by
 obtain ⟨_,⟨_,hr⟩ | ⟨hno,_⟩⟩:=hs
 ·have:=hr.pot;by_cases h8:(dy Ry th c bs).1=8
  ·exact ⟨by omega,.inl ⟨h8,hr.next h hk bs h8⟩⟩
  ·exact ⟨by omega,.inr ⟨h8,hr.last h hk bs h8⟩⟩
 ·exact absurd rfl hno
theorem vu.le {th:Int}{c:Cl}{R0 Ry:RS}{n:Nat}{f:Int}(hs:vu th c R0 Ry n f):n<=19001:=hs.1
theorem vu.fin {th:Int}{c:Cl}{R0 Ry:RS}{n:Nat}{f:Int}(hs:vu th c R0 Ry n f)(h8:¬f=8):f=1\/f=2\/(Ry=(dy R0 th c []).2/\(f=(dy R0 th c []).1\/(c.kind=5/\f=4/\(dy R0 th c []).1=0))):=by
 rcases hs.2 with ⟨e,_⟩ | ⟨_,e⟩
 ·exact absurd e h8
 ·exact e
theorem bl3 {R:RS}{S:KS}(h:Ag R S):(ak_ R).length<=100000000:=by
 have hfl:∀{α:Type} (f:α->List Int) (k:Nat) (hf:∀a,(f a).length=k) (l:List α),(l.flatMap f).length=l.length*k:=by
  intro α f k hf l;induction l with
  | nil=>simp
  | cons a l ih=>rw [List.flatMap_cons,List.length_append,ih,hf,List.length_cons,Nat.add_mul];omega
 obtain ⟨h1,h2⟩:=h.lenL;have ht:∀ot,(b42 ot).length=6:=fun ot=>by cases ot<;>rfl
 unfold ak_ vn uu aa4;rw [List.length_append,List.length_append,hfl bv8 10 (fun _=>rfl),hfl bp3 2 (fun _=>rfl),hfl (bo0 R) 7 (fun n=>by unfold bo0;rw [List.length_cons,ht])];simp only [List.length_take,List.length_range];omega
theorem a57 (v:Value)(l:List j8)(x:j8)(bv vb:Value)(ll:List (List Bool))(w:World)(hgl:fm w)(hl:ol w v l)(hn:l.length<=9223372036854775807)(hx:x.Ok)(hbb:bh1 w vb ll)(hbn:ll.length<=9223372036854775807):
 Calls Tryd.prog 9 #[v,x.val bv,vb] w fun e w'=>e=.returned (.bool true)/\Fr w w' (fun _=>False):=by
 have hf0:=(Fr.refl w (fun _=>False)).alloc (.cells #[.int .i64 x.thread,.int .i64 x.kind,.int .i64 x.a,.int .i64 x.b,.int .i64 x.c,.int .i64 x.d,bv] 42);have hb0:=heap_alloc_new w (.cells #[.int .i64 x.thread,.int .i64 x.kind,.int .i64 x.a,.int .i64 x.b,.int .i64 x.c,.int .i64 x.d,bv] 42);have hcall:=fun W=>au9 x bv W hx
 have hpk:=fun W=>pk (n:=3) W hx.kind (by decide) (by decide)
 have hp3:=ng x.kind 3 (by decide);generalize dq x.kind 3=p3 at hpk hp3;unfold j8.val at hcall ⊢;have hgl0:=fm.fr hgl hf0;have hl0:=hl.fr hf0;have hws:=hgl.lt;obtain ⟨PB,capB,rfl,hBc⟩:=hbb;go_enter Tryd.func9,Tryd.ntmps9
 go_upto_region 1 with fail
 have hpl:=am9 0 (.inl rfl) v l _ hgl0 hl0 hn;clear hl hgl;generalize w.alloc _=W0 at hf0 hb0 hpl hgl0 hl0 ⊢;obtain ⟨sw,Hsw⟩:∃sw,Hid (w.heap.size=sw):=⟨_,rfl⟩;rw [Hsw.out] at hb0 hws;rw [Hsw.out];have hBsw:sw<=sw:=Nat.le_refl _;generalize hBa:sw=Ba at hb0 ⊢;go_upto_region 2 with (go_at_call 15;refine hpl.mono ?_;rintro e W1 ⟨kx,rfl,hPx⟩)
 have hf1:=hPx.fr;have hpl2:=am9 0 (.inl rfl) v l _ (fm.fr hgl0 hf1) (hl0.fr hf1) hn;clear hpl hgl0 hl0;go_upto_region 3 with (go_at_call 15;refine hpl2.mono ?_;rintro e W2 ⟨ky,rfl,hPy⟩)
 have hf2:=hPy.fr;obtain ⟨Gx,hgx,_,hKx⟩:=hPx;obtain ⟨Gy,hgy,_,hKy⟩:=hPy;have hmu:=bc4 l;obtain ⟨S0,hag⟩:=hKx.ag;generalize jl l 300=R at hKx hKy hmu hag;have hb2:=(hf1.step hf2 (fun _=>False.elim)).same hb0 id;have hF2:=(hf0.step hf1 (fun _=>False.elim)).step hf2 (fun _=>False.elim);have hgxs:sw<=Gx.heap.size:=by rw [<- Hsw.out];exact Nat.le_trans hf0.size hgx.size
 have hgys:W1.heap.size<=Gy.heap.size:=hgy.size;have hs12:=hf2.size;clear hpl2 hb0 hgx hgy;go_upto_region 5 with fail
 obtain ⟨a0,a1,a2,a3,a4,a5,a6⟩:=dj hb2;go_upto_region 6 with (go_at_call 18;refine (hcall _).mono ?_;rintro e W3 ⟨c,av,tv,rfl,ho⟩;obtain ⟨A1,q1,rfl,_⟩:=id ho.at_;obtain ⟨A2,q2,rfl,_⟩:=id ho.ti;unfold Cl.cells)
 have hs23:=ho.fr.size;have hf4:=(Fr.refl W3 (fun _=>False)).alloc (.cells #[.int .i64 c.kind,.slice A1 c.at_.length q1,.slice A2 c.to.length q2,.int .i64 c.ty,.int .i64 c.bits,.int .i64 c.count,.int .i64 c.rights,.int .i64 c.badge,.int .i64 c.value,.int .i64 c.offset] 30);have hb8:=heap_alloc_new W3 (.cells #[.int .i64 c.kind,.slice A1 c.at_.length q1,.slice A2 c.to.length q2,.int .i64 c.ty,.int .i64 c.bits,.int .i64 c.count,.int .i64 c.rights,.int .i64 c.badge,.int .i64 c.value,.int .i64 c.offset] 30);have hb4:=(ho.fr.step hf4 (fun _=>False.elim)).same hb2 id;have hBa2:Ba<W3.heap.size:=(Array.getElem?_eq_some_iff.1 (ho.fr.same hb2 id)).1;have hB8:W3.heap.size<=W3.heap.size:=Nat.le_refl _;generalize W3.alloc _=W4 at hf4 hb8 hb4 ⊢;generalize hB:W3.heap.size=B8 at hb8 hBa2 ⊢;clear a0 a1 a2 a3 a4 a5 a6 hcall;have hB8l:B8<W4.heap.size:=(Array.getElem?_eq_some_iff.1 hb8).1;go_cut [36] (fun _ wx=>∃kd:Int,(kd=6\/kd=5\/kd=1)/\wx.heap[B8]?=some (.cells #[.int .i64 kd,.slice A1 c.at_.length q1,.slice A2 c.to.length q2,.int .i64 c.ty,.int .i64 c.bits,.int .i64 c.count,.int .i64 c.rights,.int .i64 c.badge,.int .i64 c.value,.int .i64 c.offset] 30 (0,0))/\Fr W3 wx (fun _=>False))
 case first=>
  have hfb:=(Fr.refl W4 (fun _=>False)).alloc (.cells #[.int .i64 6,.int .i64 5,.int .i64 1] 3);have hbb8:=hfb.same hb8 id;have a1:=(dj (hfb.same hb4 id)).2.1;have z0:=aa (o:=0) hbb8 rfl;have f0:=ae (o:=0) hbb8;have hF4:=hf4.step hfb (fun _=>False.elim);have hnew:=heap_alloc_new W4 (.cells #[.int .i64 6,.int .i64 5,.int .i64 1] 3);have y0:=aa (o:=0) hnew rfl;have y1:=aa (o:=1) hnew rfl;have y2:=aa (o:=2) hnew rfl;have hset:∀kd:Int,(kd=6\/kd=5\/kd=1)->∃k:Int,(k=6\/k=5\/k=1)/\((W4.setCell ⟨B8,0,none⟩ (.int .i64 kd)).alloc (.cells #[.int .i64 6,.int .i64 5,.int .i64 1] 3)).heap[B8]?=some (.cells #[.int .i64 k,.slice A1 c.at_.length q1,.slice A2 c.to.length q2,.int .i64 c.ty,.int .i64 c.bits,.int .i64 c.count,.int .i64 c.rights,.int .i64 c.badge,.int .i64 c.value,.int .i64 c.offset] 30 (0,0))/\Fr W3 ((W4.setCell ⟨B8,0,none⟩ (.int .i64 kd)).alloc (.cells #[.int .i64 6,.int .i64 5,.int .i64 1] 3)) (fun _=>False):=
   fun kd hk=>⟨kd,hk,((Fr.refl _ (fun _=>False)).alloc _).same (au _ B8 0 _ hb8) id,(hf4.setCell (.inr (by omega)) 0 _).alloc _⟩
  have h3:p3=0\/p3=1\/p3=2:=by omega
  clear hnew hfb hbb8 hF4 hb8 hb4 hf4 hKx hKy hag hBc;rcases h3 with rfl | rfl | rfl
  ·go_wp2_with (go_at_call 13;refine (hpk _).mono ?_;rintro e w1 ⟨rfl,he1⟩;obtain rfl:=he1.symm)
   go_meet;exact hset 6 (.inl rfl)
  ·go_wp2_with (go_at_call 13;refine (hpk _).mono ?_;rintro e w1 ⟨rfl,he1⟩;obtain rfl:=he1.symm)
   go_meet;exact hset 5 (.inr (.inl rfl))
  ·go_wp2_with (go_at_call 13;refine (hpk _).mono ?_;rintro e w1 ⟨rfl,he1⟩;obtain rfl:=he1.symm)
   go_meet;exact hset 1 (.inr (.inr rfl))
 case rest=>
  obtain ⟨kd,hkd,hb8c,hf5⟩:=hcut;have hF5:=ho.fr.step hf5 (fun _=>False.elim);have a0:=(dj (hF5.same hb2 id)).1;clear hpk hp3 hb8 hb4 hf4 hb2;have hKx5:=hKx.next (hf2.step hF5 (fun _=>False.elim));go_upto_region 8 with (go_at_call 19;refine (am4 hKx5 x.thread hx.thread).mono ?_;rintro e W6 ⟨th,rfl,hf6,_⟩)
  have hF6:=hF5.step hf6 (fun _=>False.elim);have hb86:=hf6.same hb8c id;clear a0 hb8c hKx5;obtain ⟨c7,hc7⟩:∃c7:Cl,c7={c with kind:=kd}:=⟨_,rfl⟩;have hat:c7.at_=c.at_:=by rw [hc7]
  have hti:c7.to=c.to:=by rw [hc7]
  have hck:c7.kind=kd:=by rw [hc7]
  have hlong:rc c7:=by unfold rc;rw [hck];omega
  have hs26:=hF6.size;have hX6:=hKx.kx.next (hf2.step hF6 (fun _=>False.elim));have hY6:=hKy.kx.next hF6;have hf36:=hf5.step hf6 (fun _=>False.elim);have hs36:=hf36.size;have hba:∀k,(Value.slice A1 c.at_.length q1).ownBlock=some k->W2.heap.size<=k:=ho.ba;have hbt:∀k,(Value.slice A2 c.to.length q2).ownBlock=some k->W2.heap.size<=k:=ho.bt;have hI1:c_ W6 (.slice A1 c.at_.length q1) c7.at_:=by rw [hat];exact ho.at_.fr hf36 (fun _ _=>id)
  have hI2:c_ W6 (.slice A2 c.to.length q2) c7.to:=by rw [hti];exact ho.ti.fr hf36 (fun _ _=>id)
  have hl1:c7.at_.length<=2:=by rw [hat];exact ho.al
  have hl2:c7.to.length<=2:=by rw [hti];exact ho.tl
  have hdoX:=hX6.doB c7 th (bv:=.slice none 0 0) (bs:=[]) hI1 hI2 (by omega) (by omega) ho.ac ho.tc (fj.none _ _ _) (fun _ k hk e=>by have:=hba k hk;omega) (fun _ k hk e=>by have:=hbt k hk;omega) (fun h0=>absurd h0 (by decide))
  rw [aq4 R th [] hlong] at hdoX;have h8:=bz0 hag th hlong;obtain ⟨e0,He0⟩:∃e0,Hid ((dy R th c7 []).1=e0):=⟨_,rfl⟩;obtain ⟨R1,HR1⟩:∃R1,Hid ((dy R th c7 []).2=R1):=⟨_,rfl⟩;have hag1:=(ai1 hag th c7 [] (by have:c7.kind=1\/c7.kind=5\/c7.kind=6:=hlong;omega)).2.1;rw [He0.out] at h8;rw [HR1.out] at hag1;have hlen:=bl3 hag1;have hdoX:Calls Tryd.prog 12 #[.pointer (some ⟨kx,0,none⟩),.int .i64 th,.agg #[.int .i64 kd,.slice A1 c.at_.length q1,.slice A2 c.to.length q2,.int .i64 c.ty,.int .i64 c.bits,.int .i64 c.count,.int .i64 c.rights,.int .i64 c.badge,.int .i64 c.value,.int .i64 c.offset],.slice none 0 0] W6
   fun e w'=>e=.returned (.tuple #[.int .i64 0,.int .i64 e0])/\KX (fun k=>(Gx.heap.size<=k/\k<W1.heap.size)\/(W6.heap.size<=k/\k<w'.heap.size)) w' kx R1/\Fr W6 w' (fun k=>Gx.heap.size<=k/\k<W1.heap.size):=by
   rw [<- He0.out,<- HR1.out];rw [hc7] at hdoX ⊢;exact hdoX
  obtain ⟨z0,z1,z2,z3,z4,z5,z6,z7,z8,z9⟩:=zi hb86;have hag0:=hag;clear hag1 hKx hKy hf5 hf6 hag;go_upto_region 9 with (go_at_call 12;refine hdoX.mono ?_;rintro e W7 ⟨rfl,hX7,hf7⟩)
  clear z0 z1 z2 z3 z4 z5 z6 z7 z8 z9 hdoX hX6;have hs67:=hf7.size;have hY7:=hY6.frame hf7 (fun k hk e=>by omega) (fun k hk=>by omega);have hb87:=hf7.same hb86 (fun e=>by omega);have hB87:B8<W6.heap.size:=(Array.getElem?_eq_some_iff.1 hb86).1;have hJ1:=hI1.frk hf7 (fun _ k hk e=>by have:=hba k hk;omega);have hJ2:=hI2.frk hf7 (fun _ k hk e=>by have:=hbt k hk;omega);have hFw7:Fr w W7 (fun _=>False):=(hF2.step hF6 (fun _=>False.elim)).step hf7 (fun k hk=>.inr (by rw [Hsw.out];omega))
  obtain ⟨ac,tc⟩:(∀A n cap,Value.slice A1 c.at_.length q1=.slice A n cap->n<=cap)/\(∀A n cap,Value.slice A2 c.to.length q2=.slice A n cap->n<=cap):=⟨ho.ac,ho.tc⟩;have hY0:KX (Qn (fun k=>Gy.heap.size<=k/\k<W2.heap.size) W7.heap.size W7) W7 ky R:=hY7.mono (fun k hk=>.inl hk);have hdoY:∀(w' W:World) (Ry:RS) (bv:Value) (bs:List Bool),Fr W7 w' (fun k=>Gy.heap.size<=k/\k<W2.heap.size)->KX (Qn (fun k=>Gy.heap.size<=k/\k<W2.heap.size) W7.heap.size w') w' ky Ry->Fr w' W (fun _=>False)->fj W bv bs->(0<bs.length->∀k,bv.ownBlock=some k->¬Qn (fun k=>Gy.heap.size<=k/\k<W2.heap.size) W7.heap.size w' k)->
   Calls Tryd.prog 12 #[.pointer (some ⟨ky,0,none⟩),.int .i64 th,.agg #[.int .i64 kd,.slice A1 c.at_.length q1,.slice A2 c.to.length q2,.int .i64 c.ty,.int .i64 c.bits,.int .i64 c.count,.int .i64 c.rights,.int .i64 c.badge,.int .i64 c.value,.int .i64 c.offset],bv] W
   fun e w''=>e=.returned (.tuple #[.int .i64 0,.int .i64 (dy Ry th c7 bs).1])/\Fr W7 w'' (fun k=>Gy.heap.size<=k/\k<W2.heap.size)/\KX (Qn (fun k=>Gy.heap.size<=k/\k<W2.heap.size) W7.heap.size w'') w'' ky (dy Ry th c7 bs).2:=by
   intro w' W Ry bv bs g1 g2 g3 g4 g5;have:=bn_ g1 g2 g3 c7 hlong th hJ1 hJ2 hl1 hl2 ac tc (fun k hk e=>by have:=hba k hk;omega) (fun k hk e=>by have:=hbt k hk;omega) g4 g5;rw [hc7] at this ⊢;exact this
  have hBl:∀i (hi:i<ll.length),∃g o bv,PB=some ⟨g,o,none⟩/\w.cell? ⟨g,o+i,none⟩=some bv/\fj w bv ll[i]:=fun i hi=>by
   obtain ⟨g,o,e,h⟩:=hBc (by omega);obtain ⟨bv,h1,h2⟩:=h i hi;exact ⟨g,o,bv,e,h1,h2⟩
  have hgw:sw<=Gy.heap.size:=by have:=hf1.size;have:=hf0.size;rw [Hsw.out] at this;omega
  clear hBc hb86 hJ1 hJ2 hI1 hI2 hY6 hY7 hba hbt ho hat hti hF6 hf36 hf7;have d8:(e0==8)=false:=by simpa using h8
  go_wp2;go_loopw [13,14] (fun fv nv w'=>∃(n:Nat) (f:Int) (Ry:RS),fv=.int .i64 f/\nv=.int .i64 n/\Fr W7 w' (fun k=>Gy.heap.size<=k/\k<W2.heap.size)/\KX (Qn (fun k=>Gy.heap.size<=k/\k<W2.heap.size) W7.heap.size w') w' ky Ry/\vu th c7 R Ry n f) (fun _ nv _=>19002-(intOf nv).toNat)
  case atStart=>exact ⟨0,8,R,rfl,rfl,Fr.refl _ _,hY0,vu.start hag0 th c7⟩
  case round=>
   clear hY0;obtain ⟨n,f,Ry,rfl,rfl,hfY,hYr,hst⟩:=hrel;have hnl:=hst.le;have hszr:=hfY.size;have hb8r:=hfY.same hb87 (fun e=>by omega);by_cases hf8:f=8
   ·subst hf8;obtain ⟨z0,z1,z2,z3,z4,z5,z6,z7,z8,z9⟩:=zi hb8r;obtain ⟨SY,hagY⟩:=hYr.ag;have hfa:=(Fr.refl wr (fun _=>False)).alloc (.cells #[.bool true] 4);have hba:=heap_alloc_new wr (.cells #[.bool true] 4);have hnx:=fun bs=>hst.next hagY hlong hmu bs
    replace z0:=hfa.cell z0 id;replace z1:=hfa.cell z1 id;replace z2:=hfa.cell z2 id;replace z3:=hfa.cell z3 id;replace z4:=hfa.cell z4 id;replace z5:=hfa.cell z5 id;replace z6:=hfa.cell z6 id;replace z7:=hfa.cell z7 id;replace z8:=hfa.cell z8 id;replace z9:=hfa.cell z9 id;have hdo:=fun bv bs=>hdoY wr _ Ry bv bs hfY hYr hfa
    clear hX7 hdoY;by_cases hlt:n<ll.length
    ·obtain ⟨g,o,bn,rfl,hcn,hBn⟩:=hBl n hlt;obtain ⟨An,cn,rfl,_,_⟩:=id hBn;have hFa:=hFw7.step (hfY.step hfa (fun _=>False.elim)) (fun k hk=>.inr (by rw [Hsw.out];omega))
     have hcr:=hFa.cell hcn id;have hdo1:=hdo _ ll[n] (hBn.fr hFa) (fun h0 k hk e=>by
      have h1:=hBn.lt h0 k hk;have h2:=hFw7.size;rw [Hsw.out] at h1 h2;rcases e with e | e<;>omega)
     have hnx1:=hnx ll[n];generalize (dy Ry th c7 ll[n]).1=f1 at hdo1 hnx1;generalize (dy Ry th c7 ll[n]).2=R2 at hdo1 hnx1;clear hdo hnx hBl hst hfY hYr hFa hcn hBn hb8r hfa hba;go_wp2_with (go_at_call 12;refine hdo1.mono ?_;rintro e W8 ⟨rfl,hfY8,hY8⟩)
     go_roundw;case rel=>exact ⟨n+1,f1,R2,rfl,by go_num,hfY8,hY8,hnx1⟩
     case measure=>simp [intOf];omega
    ·have hdo1:=hdo (.slice (some ⟨wr.heap.size,0,none⟩) 1 1) [true] (bk0 _ _ hba) (fun _ k hk e=>by
      have:=ka hk;rcases e with e | e<;>omega)
     have hnx1:=hnx [true];generalize (dy Ry th c7 [true]).1=f1 at hdo1 hnx1;generalize (dy Ry th c7 [true]).2=R2 at hdo1 hnx1;clear hdo hnx hBl hst hfY hYr hb8r hfa hba;go_wp2_with (go_at_call 12;refine hdo1.mono ?_;rintro e W8 ⟨rfl,hfY8,hY8⟩)
     go_roundw;case rel=>exact ⟨n+1,f1,R2,rfl,by go_num,hfY8,hY8,hnx1⟩
     case measure=>simp [intOf];omega
   ·have hfin:=hst.fin hf8;rw [He0.out,HR1.out,hck] at hfin;have hXr:=hX7.frame hfY (fun k hk e=>by omega) (fun k hk=>by omega);have hFr:Fr w wr (fun _=>False):=hFw7.step hfY (fun k hk=>.inr (by rw [Hsw.out];omega))
    have z0:=aa (o:=0) hb8r rfl;clear hX7 hdoY hBl hst hfY hb87 hb8r hFw7 hF2 hmu;rcases hfin with rfl | rfl | ⟨rfl,rfl | ⟨rfl,rfl,rfl⟩⟩
    ·go_wp2;all_goals go_ret
     all_goals exact ⟨rfl,hFr⟩
    ·go_wp2;all_goals go_ret
     all_goals exact ⟨rfl,hFr⟩
    ·by_cases e1:f=1
     ·subst e1;go_wp2;go_ret;exact ⟨rfl,hFr⟩
     ·by_cases e2:f=2
      ·subst e2;go_wp2;go_ret;exact ⟨rfl,hFr⟩
      ·by_cases e4:f=0
       ·subst e4;have hX9:=hXr;go_upto_region 26 with (go_at_call 22;refine (ab7 hX9).mono ?_;rintro e W8 ⟨vp,rfl,hvp,hf8⟩)
        have hY9:=hYr.next hf8;go_upto_region 27 with (go_at_call 22;refine (ab7 hY9).mono ?_;rintro e W9 ⟨vq,rfl,hvq,hf9⟩)
        have hi1:=(l6 hvp).fr hf9 (fun _ _=>id);have hi2:=l6 hvq;have hF9:=(hFr.step hf8 (fun _=>False.elim)).step hf9 (fun _=>False.elim);clear hvp hvq hX9 hY9 hXr hYr;go_wp2_with (go_at_call 23;refine (a82 _ _ _ _ hlen hi1 hi2).mono ?_;rintro e W10 ⟨rfl,m10,rfl⟩)
        go_ret;exact ⟨by first | rfl | simp,hF9.drewN _⟩
       ·by_cases e5:f=4
        ·subst e5;by_cases e6:kd=5
         ·subst e6;have hX9:=hXr;go_upto_region 26 with (go_at_call 22;refine (ab7 hX9).mono ?_;rintro e W8 ⟨vp,rfl,hvp,hf8⟩)
          have hY9:=hYr.next hf8;go_upto_region 27 with (go_at_call 22;refine (ab7 hY9).mono ?_;rintro e W9 ⟨vq,rfl,hvq,hf9⟩)
          have hi1:=(l6 hvp).fr hf9 (fun _ _=>id);have hi2:=l6 hvq;have hF9:=(hFr.step hf8 (fun _=>False.elim)).step hf9 (fun _=>False.elim);clear hvp hvq hX9 hY9 hXr hYr;go_wp2_with (go_at_call 23;refine (a82 _ _ _ _ hlen hi1 hi2).mono ?_;rintro e W10 ⟨rfl,m10,rfl⟩)
          go_ret;exact ⟨by first | rfl | simp,hF9.drewN _⟩
         ·go_wp2;all_goals go_ret
          all_goals exact ⟨by first | rfl | simp,hFr⟩
        ·go_wp2;all_goals go_ret
         all_goals exact ⟨by first | rfl | simp,hFr⟩
    ·have hX9:=hXr;go_upto_region 26 with (go_at_call 22;refine (ab7 hX9).mono ?_;rintro e W8 ⟨vp,rfl,hvp,hf8⟩)
     have hY9:=hYr.next hf8;go_upto_region 27 with (go_at_call 22;refine (ab7 hY9).mono ?_;rintro e W9 ⟨vq,rfl,hvq,hf9⟩)
     have hi1:=(l6 hvp).fr hf9 (fun _ _=>id);have hi2:=l6 hvq;have hF9:=(hFr.step hf8 (fun _=>False.elim)).step hf9 (fun _=>False.elim);clear hvp hvq hX9 hY9 hXr hYr;go_wp2_with (go_at_call 23;refine (a82 _ _ _ _ hlen hi1 hi2).mono ?_;rintro e W10 ⟨rfl,m10,rfl⟩)
     go_ret;exact ⟨by first | rfl | simp,hF9.drewN _⟩
end Go.Proofs.YtdpjgflemddekaaDoor
