/- The document's answer: what is doomed is worked off. -/
import Derived.Test.YtdpjgflemddekaaGreatDoorMTRd
import Derived.Deep.LoopGhost
set_option maxRecDepth 100000
set_option maxHeartbeats 4000000
namespace Go.Proofs.YtdpjgflemddekaaGreatDoor
open Go.RowKit
theorem bp5 {w:World}{b t s n g cap:Nat}{xs:List Value}(h:w.ownsRow b t s (.slice (some ⟨g,0,none⟩) (n+1) cap) (n+1) xs):w.ownsRow b t s (.slice (some ⟨g,0,none⟩) n cap) n (xs.take (n*s)):=by
 refine ⟨by rw [List.length_take,h.1,Nat.add_mul];omega,?_⟩;rcases h.2 with ⟨h0,_⟩ | ⟨g',cap',cur,hv,h1,h2,h3,h4,h5,h6⟩
 ·cases h0
 ·cases hv
  refine .inr ⟨g,cap,cur,rfl,h1,h2,by omega,h4,h5,?_⟩;rw [<- h6,List.take_take];congr 1;rw [Nat.add_mul];omega
theorem bt_ (A:List (Int×Int))(d:Int×Int):((A++[d]).flatMap sg).take (A.length*2)=A.flatMap sg:=by
 rw [List.flatMap_append,List.take_left' (by rw [n7 sg 2 t_])]
theorem RD.popD {w:World}{kb:Nat}{R:dq}{A:List (Int×Int)}{d:Int×Int}{ws:Nat->Int}{q:List Wt}{V:ax}(h:RD w kb ⟨R,A++[d],ws,q⟩ V){g cap:Nat}(hd:V.dv=.slice (some ⟨g,0,none⟩) (A.length+1) cap):
 fh w kb V ⟨R,A,ws,q⟩ {V with dv:=.slice (some ⟨g,0,none⟩) A.length cap} (w.setCell ⟨kb,1028,none⟩ (.slice (some ⟨g,0,none⟩) A.length cap)):=by
 have hdd:=h.d;rw [hd] at hdd;simp only [List.length_append,List.length_cons,List.length_nil] at hdd;have h2:=bp5 hdd;rw [bt_] at h2;have hgk:∀k,(Value.slice (some ⟨g,0,none⟩) A.length cap).ownBlock=some k->V.dv.ownBlock=some k:=fun k hk=>by rw [hd];exact hk
 refine ⟨⟨h.ref.setD _,h.ws,(Fr.s1 _ _ _ _).owns h2 (fun k hk e=>h.dk k (hgk k hk) (.inl e)),fun k hk=>h.dk k (hgk k hk),(Fr.s1 _ _ _ _).owns h.q (fun k hk e=>(h.qk k hk).1 (.inl e)),fun k hk=>⟨(h.qk k hk).1,fun e=>(h.qk k hk).2 (hgk k e)⟩⟩,(Fr.s1 _ _ _ _).mono (fun k hk=>.inl (.inl hk)),?_⟩
 rintro k (hk | hk | hk)
 ·exact .inl (.inl hk)
 ·exact .inl (.inr (.inl (hgk k hk)))
 ·exact .inl (.inr (.inr hk))
theorem RD.lowD {w:World}{kb:Nat}{R:dq}{A:List (Int×Int)}{nd left:Int}{ws:Nat->Int}{q:List Wt}{V:ax}(h:RD w kb ⟨R,A++[(nd,left)],ws,q⟩ V){g cap:Nat}(hd:V.dv=.slice (some ⟨g,0,none⟩) (A.length+1) cap):
 fh w kb V ⟨R,A++[(nd,left-1)],ws,q⟩ V (w.setCell ⟨g,A.length*2+1,none⟩ (.int .i64 (left-1))):=by
 have hdd:=h.d;rw [hd] at hdd;simp only [List.length_append,List.length_cons,List.length_nil] at hdd;have h2:=eh hdd (A.length*2+1) (.int .i64 (left-1));have hrow:((A++[(nd,left)]).flatMap sg).set (A.length*2+1) (.int .i64 (left-1))=(A++[(nd,left-1)]).flatMap sg:=by
  have:=lg sg 2 t_ (.int .i64 (left-1)) (nd,left-1) (A++[(nd,left)]) A.length 1 (by simp) (by omega) (by simp [sg]);rw [this];congr 1;simp
 rw [hrow] at h2;have hg:V.dv.ownBlock=some g:=by rw [hd];rfl
 refine ⟨⟨h.ref.frame (Fr.s1 _ _ _ _) (fun k hk e=>h.dk g hg (e▸hk)),h.ws,?_,h.dk,(Fr.s1 _ _ _ _).owns h.q (fun k hk e=>(h.qk k hk).2 (by rw [e];exact hg)),h.qk⟩,(Fr.s1 _ _ _ _).mono (fun k hk=>.inr (.inl (by rw [hk];exact hg))),fun k hk=>.inl hk⟩
 show World.ownsRow _ 0 116 2 V.dv (A++[(nd,left-1)]).length _;rw [hd];simpa using h2
theorem bi1 {w:World}{kb:Nat}{R:dq}{A:List (Int×Int)}{nd left:Int}{ws:Nat->Int}{q:List Wt}{V:ax}(h:RD w kb ⟨R,A++[(nd,left)],ws,q⟩ V):
 ∃g cap,V.dv=.slice (some ⟨g,0,none⟩) (A.length+1) cap/\A.length+1<=cap/\g<w.heap.size/\w.cell? ⟨g,A.length*2,none⟩=some (.int .i64 nd)/\w.cell? ⟨g,A.length*2+1,none⟩=some (.int .i64 left)/\w.frozen? ⟨g,A.length*2+1,none⟩=false:=by
 have hdd:=h.d;simp only [List.length_append,List.length_cons,List.length_nil] at hdd;obtain ⟨g,cap,hd,hc,_,hg⟩:=ep hdd (by omega);obtain ⟨_,_,hcc⟩:=nz hdd (by rw [hd];rfl);have g0:=j8 sg 2 t_ (A++[(nd,left)]) A.length 0 (by simp) (by omega);have g1:=j8 sg 2 t_ (A++[(nd,left)]) A.length 1 (by simp) (by omega);simp only [List.getElem_concat_length,Nat.add_zero] at g0 g1;have c0:=hdd.cells (g:=g) (by rw [hd];rfl) (A.length*2) _ (by rw [g0];rfl);have c1:=hdd.cells (g:=g) (by rw [hd];rfl) (A.length*2+1) _ (by rw [g1];rfl);rw [mp] at c0 c1;exact ⟨g,cap,hd,hc,hg,by simpa using c0,by simpa using c1,ab hcc⟩
theorem am1 {σ:Type}{step:σ->σ}{done:σ->Bool}{n:Nat}{S:σ}{bs:List Bool}(h:done S=false):
 ao step done (n+1) S bs=if (ar bs).1 then (step S,(ar bs).2,false) else ao step done n (step S) (ar bs).2:=by
 cases bs with
 | nil=>simp [ao,h,ar]
 | cons b r=>cases b<;>simp [ao,h,ar]
theorem uc (S:RS)(V:ax)(kb:Nat)(bs:List Bool)(w:World)(h:RB w kb S V bs)(hG:j2 S):
 Calls Tryz.prog 79 #[.pointer (some ⟨kb,0,none⟩)] w fun e' w'=>e'=.returned (.bool (ao cg df F0 S bs).2.2)/\bi0 w kb V (ao cg df F0 S bs).1 (ao cg df F0 S bs).2.1 (ao cg df F0 S bs).2.2 w':=by
 generalize hy:ao cg df F0 S bs=y;have hE:mu S<=F0:=by obtain ⟨S',hA⟩:=hG;exact hA.mu_le
 have hklt:kb<w.heap.size:=World.block_lt_of_cell? w _ h.rd.ref.cd;go_enter Tryz.func79,Tryz.ntmps79
 go_wp2;go_loopg [6] (mu S) (fun k _ w'=>∃n S1 bs1 V1,Aside (mu S1=k/\mu S1<=n/\ao cg df n S1 bs1=y/\j2 S1/\RB w' kb S1 V1 bs1/\fh w kb V S1 V1 w'))
 case atStart=>exact ⟨F0,S,bs,V,⟨rfl,hE,hy,hG,h,⟨h.rd,Fr.refl _ _,fun k hk=>.inl hk⟩⟩⟩
 case round=>
  obtain ⟨n,S1,bs1,V1,hA⟩:=hrel;obtain ⟨hk,hn,hw,hG1,hB1,hO1⟩:=hA.out;clear hA hy hE h hG;obtain ⟨R1,D1,ws1,q1⟩:=S1;obtain ⟨b1,b2,b3,b4,b5,b6,b7,b8⟩:=hG1.bounds;simp only at b1 b2 b3 b4 b5 b6 b7;have hcd:=hB1.rd.ref.cd;have hzd:=hB1.rd.ref.fz 1028;have hkr:kb<wr.heap.size:=World.block_lt_of_cell? _ _ hcd;rcases zi D1 with rfl | ⟨A,nd,left,rfl,_,_⟩
  ·have HY:Hid (y=(⟨R1,[],ws1,q1⟩,bs1,true)):=by
    show _=_;rw [<- hw];cases n with
    | zero=>rfl
    | succ n=>simp [ao,df]
   obtain ⟨AD,capD,hdv⟩:=im hB1.rd.d;have hdv':V1.dv=.slice AD 0 capD:=hdv;rw [hdv'] at hcd;clear hw hk hn b1 b2 b3 b4 b5 b6 b7 hdv hdv';go_wp2;go_ret;rw [HY.out];exact ⟨rfl,⟨V1,hO1,fun _=>hB1⟩⟩
  ·obtain ⟨g1,c1,hdv,hcap,hg1,d0,d1,dz⟩:=bi1 hB1.rd;rw [hdv] at hcd;have hdl:A.length+1<=900000:=by simpa using b4
   obtain ⟨e1,e2,e3,e4⟩:=b6 (nd,left) (by simp);dsimp only at e1 e2 e3 e4;have hms:mu (cg ⟨R1,A++[(nd,left)],ws1,q1⟩)+1<=mu ⟨R1,A++[(nd,left)],ws1,q1⟩:=by
    obtain ⟨S',hAg⟩:=hG1;exact (ai1 hAg (by simp [df])).1
   have hwn:∃n',n=n'+1/\y=(if (ar bs1).1 then (cg ⟨R1,A++[(nd,left)],ws1,q1⟩,(ar bs1).2,false) else ao cg df n' (cg ⟨R1,A++[(nd,left)],ws1,q1⟩) (ar bs1).2):=by
    cases n with
    | zero=>omega
    | succ n=>exact ⟨n,rfl,by rw [<- hw];exact am1 (by simp [df])⟩
   obtain ⟨n',hn',hyw⟩:=hwn;have hGs:=hG1.step;have AS:Aside (mu (cg ⟨R1,A++[(nd,left)],ws1,q1⟩)<gk/\mu (cg ⟨R1,A++[(nd,left)],ws1,q1⟩)<=n'/\y=(if (ar bs1).1 then (cg ⟨R1,A++[(nd,left)],ws1,q1⟩,(ar bs1).2,false) else ao cg df n' (cg ⟨R1,A++[(nd,left)],ws1,q1⟩) (ar bs1).2)/\j2 (cg ⟨R1,A++[(nd,left)],ws1,q1⟩)):=⟨by omega,by omega,hyw,hGs⟩;clear hyw hGs hms hw hk hn hn' b6;go_upto_if 28 with fail
   generalize hw2:wr.alloc (Obj.cells #[.int .i64 nd,.int .i64 left] 116)=w2;have hfa:Fr wr w2 (fun _=>False):=by rw [<- hw2];exact (Fr.refl _ _).alloc _
   have hba:w2.heap[wr.heap.size]?=some (Obj.cells #[.int .i64 nd,.int .i64 left] 116):=by rw [<- hw2];exact heap_alloc_new _ _
   clear hw2;have hrd2:=hB1.rd.frame hfa (fun _ _=>id);have k0:=aa (o:=0) hba rfl;have k1:=aa (o:=1) hba rfl;have hcd2:=hfa.cell hcd id;have hzd2:=hrd2.ref.fz 1028;have d02:=hfa.cell d0 id;have d12:=hfa.cell d1 id;have dz2:w2.frozen? ⟨g1,A.length*2+1,none⟩=false:=by
    obtain ⟨_,_,hcc⟩:=nz hrd2.d (by rw [hdv];rfl);exact ab hcc
   have hg1k:g1≠kb:=fun e=>hB1.rd.dk g1 (by rw [hdv];rfl) (.inl e)
   have hw2s:wr.heap.size<w2.heap.size:=(Array.getElem?_eq_some_iff.1 hba).1;have HDV:Hid (V1.dv=.slice (some ⟨g1,0,none⟩) (A.length+1) c1):=hdv;clear d0 d1 dz hcd hzd hdv;go_cut [5] (fun _ wx=>∃V2,fh w2 kb V1 (cg ⟨R1,A++[(nd,left)],ws1,q1⟩) V2 wx/\V2.bv=V1.bv/\V2.sv=V1.sv)
   case first=>
    by_cases hl:left=0
    ·subst hl;have hO2:=hrd2.popD HDV.out;go_wp2;go_meet;case rel=>exact ⟨{V1 with dv:=.slice (some ⟨g1,0,none⟩) A.length c1},by rw [zf];exact hO2,rfl,rfl⟩
    ·have hl':(left==0)=false:=by simpa using hl
     have HSM:Hid (cg ⟨R1,A++[(nd,left)],ws1,q1⟩=n_ ⟨R1,A++[(nd,left-1)],ws1,q1⟩ nd (left-1)):=yz hl;have hO2:=hrd2.lowD HDV.out;clear hl;go_wp2;go_region
     all_goals
      have hO3:fh w2 kb V1 ⟨R1,A++[(nd,left-1)],ws1,q1⟩ V1 (w2.setCell ⟨g1,A.length*2+1,none⟩ (.int .i64 (left-1))).drew:=⟨hO2.rd.frame ((Fr.refl _ (fun _=>False)).drew) (fun _ _=>id),hO2.fr.drew,hO2.new⟩;have hb3:(w2.setCell ⟨g1,A.length*2+1,none⟩ (.int .i64 (left-1))).drew.heap[wr.heap.size]?=some (Obj.cells #[.int .i64 nd,.int .i64 left] 116):=(Fr.s1 w2 g1 (A.length*2+1) (.int .i64 (left-1))).same hba (by omega);generalize (w2.setCell ⟨g1,A.length*2+1,none⟩ (.int .i64 (left-1))).drew=W3 at hO3 hb3 ⊢;have m0:=aa (o:=0) hb3 rfl;have m1:=aa (o:=1) hb3 rfl;have hk3:kb<W3.heap.size:=World.block_lt_of_cell? _ _ hO3.rd.ref.cl;clear hO2 k0 k1 hcd2 hzd2 d02 d12 dz2;cases hidx:R1.L.findIdx? (ee nd (left-1)) with
      | none=>
       have hx:atI R1.L nd (left-1)=-1:=by unfold atI;rw [hidx];rfl
       have HTA:Hid (n_ ⟨R1,A++[(nd,left-1)],ws1,q1⟩ nd (left-1)=⟨R1,A++[(nd,left-1)],ws1,q1⟩):=by
        show _=_;unfold n_;simp only [hidx]
       have HX:Hid (atI R1.L nd (left-1)=-1):=hx;clear hidx hx;go_wp2_with (go_at_call 82;go_must (refine (jj R1.L kb V1.lv nd (left-1) _ (by omega) hO3.rd.ref.cl hO3.rd.ref.ll).mono ?_);rintro x4 w4 ⟨rfl,rfl⟩;rw [HX.out])
       go_meet;case rel=>exact ⟨V1,by rw [HSM.out,HTA.out];exact hO3,rfl,rfl⟩
      | some p=>
       obtain ⟨hp,_⟩:=List.findIdx?_eq_some_iff_getElem.1 hidx;have HX:Hid (atI R1.L nd (left-1)=(p:Int)):=by show _=_;unfold atI;rw [hidx];rfl
       have HTA:Hid (n_ ⟨R1,A++[(nd,left-1)],ws1,q1⟩ nd (left-1)=ik ⟨R1,A++[(nd,left-1)],ws1,q1⟩ p R1.L[p]):=by
        show _=_;unfold n_;simp only [hidx,List.getElem?_eq_getElem hp]
       clear hidx;go_wp2_with (first
        |(go_at_call 82;go_must (refine (jj R1.L kb V1.lv nd (left-1) _ (by omega) hO3.rd.ref.cl hO3.rd.ref.ll).mono ?_);rintro x4 w4 ⟨rfl,rfl⟩;rw [HX.out])
        |(go_at_call 102;go_must (refine (uw ⟨R1,A++[(nd,left-1)],ws1,q1⟩ V1 kb p _ hO3.rd hp b1 b2 b3 (by simpa using hdl) b8 b5 (b7 p hp)).mono ?_);rintro x5 w5 ⟨rfl,V5,hO5,hbv5,hsv5⟩))
       go_meet;case rel=>exact ⟨V5,by rw [HSM.out,HTA.out];exact hO3.trans hO5,hbv5,hsv5⟩
   case rest=>
    obtain ⟨V2,hO2,hbv,hsv⟩:=hcut;have hOw:fh wr kb V1 (cg ⟨R1,A++[(nd,left)],ws1,q1⟩) V2 wc:=⟨hO2.rd,(hfa.mono (fun _=>False.elim)).step hO2.fr (fun k hk=>.inl hk),fun k hk=>(hO2.new k hk).imp id (fun e=>Nat.le_trans (Nat.le_of_lt hw2s) e)⟩
    have hB2:=hB1.after hOw hbv hsv;have hOall:=hO1.trans hOw;clear hO2 hrd2 k0 k1 hcd2 hzd2 d02 d12 dz2 hfa hba hbv hsv;go_wp2_with (go_at_call 103;go_must (refine (zu _ V2 kb bs1 _ hB2).mono ?_);rintro x3 w3 ⟨rfl,⟨V3,hO3,hB3⟩⟩)
    ·rename_i hp;obtain ⟨_,_,a3,_⟩:=AS.out;rw [if_pos hp] at a3;subst a3;go_ret;exact ⟨by rw [hp];rfl,⟨V3,hOall.trans hO3,fun hf=>by cases hf⟩⟩
    ·rename_i hp;have hp':(ar bs1).1=false:=by simpa using hp
     obtain ⟨a1,a2,a3,a4⟩:=AS.out;rw [if_neg (by rw [hp'];simp)] at a3;go_roundg (mu (cg ⟨R1,A++[(nd,left)],ws1,q1⟩))
     case measure=>exact a1
     case rel=>exact ⟨n',_,_,V3,⟨rfl,a2,a3.symm,a4,hB3 (by rw [hp'];rfl),hOall.trans hO3⟩⟩
theorem j2.work {S:RS}(h:j2 S)(n:Nat)(bs:List Bool):j2 (ao cg df n S bs).1:=by obtain ⟨S',hA⟩:=h;exact ⟨_,(Ag.work n bs hA).2⟩
theorem j2.takeB {S:RS}(h:j2 S){p:Nat}(hp:p<S.R.L.length)(bs:List Bool):j2 (takeB S p S.R.L[p] bs).2.1:=by obtain ⟨S',hA⟩:=h;exact ⟨_,(hA.takeB hp bs).2.2.1⟩
theorem RB.drewN {w:World}{kb:Nat}{S:RS}{V:ax}{bs:List Bool}(h:RB w kb S V bs)(q:Nat):RB (w.drewN q) kb S V bs:=
 h.after ⟨h.rd.frame ((Fr.refl _ (fun _=>False)).drewN q) (fun _ _=>id),(Fr.refl _ _).drewN q,fun _ hk=>.inl hk⟩ rfl rfl
theorem a30 (S:RS)(V:ax)(kb p:Nat)(bs:List Bool)(w:World)(h:RB w kb S V bs)(hG:j2 S)(hp:p<S.R.L.length):
 Calls Tryz.prog 84 #[.pointer (some ⟨kb,0,none⟩),.int .i64 p] w fun e' w'=>e'=.returned (.int .i64 (takeB S p S.R.L[p] bs).1)/\
  bi0 w kb V (takeB S p S.R.L[p] bs).2.1 (takeB S p S.R.L[p] bs).2.2 (decide ((takeB S p S.R.L[p] bs).1=0)) w':=by
 generalize hy:takeB S p S.R.L[p] bs=y;have HY:Hid (takeB S p S.R.L[p] bs=y):=hy;clear hy;obtain ⟨b1,b2,b3,b4,b5,_,b7,b8⟩:=hG.bounds;have hGt:=hG.take hp;go_enter Tryz.func84,Tryz.ntmps84
 go_wp2_with fail
 refine (uw S V kb p w h.rd hp b1 b2 b3 b4 b8 b5 (b7 p hp)).mono ?_;rintro x1 w1 ⟨rfl,V1,hO1,hbv,hsv⟩;have hB1:=h.after hO1 hbv hsv;go_wp2_with fail
 refine (zu _ V1 kb bs w1 hB1).mono ?_;rintro x2 w2 ⟨rfl,⟨V2,hO2,hB2⟩⟩;by_cases hb:(ar bs).1=true
 ·have hy1:y=(8,ik S p S.R.L[p],(ar bs).2):=by rw [<- HY.out];unfold takeB;rw [if_pos hb]
  rw [hb];go_wp2;go_ret;rw [hy1];exact ⟨rfl,⟨V2,hO1.trans hO2,fun hf=>by simp at hf⟩⟩
 ·have hb':(ar bs).1=false:=by simpa using hb
  have HY1:Hid (y=(if (ao cg df F0 (ik S p S.R.L[p]) (ar bs).2).2.2 then 0 else 8,(ao cg df F0 (ik S p S.R.L[p]) (ar bs).2).1,(ao cg df F0 (ik S p S.R.L[p]) (ar bs).2).2.1)):=by
   show _=_;rw [<- HY.out];unfold takeB;rw [if_neg hb]
  rw [hb'] at hB2 ⊢;have hB2':=hB2 rfl;clear hb hB2;go_wp2_with fail
  refine (uc _ V2 kb _ w2 hB2' hGt).mono ?_;rintro x3 w3 ⟨rfl,⟨V3,hO3,hB3⟩⟩;generalize ao cg df F0 (ik S p S.R.L[p]) (ar bs).2=z at HY1 hO3 hB3 ⊢;obtain ⟨z1,z2,z3⟩:=z;cases z3 with
  | true=>
   go_wp2;go_ret;rw [HY1.out];exact ⟨rfl,⟨V3,(hO1.trans hO2).trans hO3,fun _=>hB3 (by first | rfl | trivial)⟩⟩
  | false=>
   go_wp2;go_ret;rw [HY1.out];exact ⟨rfl,⟨V3,(hO1.trans hO2).trans hO3,fun hf=>by simp at hf⟩⟩
theorem ar_ {L:List aw}{up:Int}{p:Nat}:∀k,p<iw L up p k/\iw L up p k<=p+1+k
 | 0=>by simp [iw]
 | k+1=>by
  have:=ar_ (L:=L) (up:=up) (p:=p) k;unfold iw;split
  ·split<;>omega
  ·omega
theorem bc6 (S:RS)(V:ax)(kb:Nat)(nd ix:Int)(bs:List Bool)(w:World)(h:RB w kb S V bs)(hG:j2 S):
 Calls Tryz.prog 85 #[.pointer (some ⟨kb,0,none⟩),.int .i64 nd,.int .i64 ix] w fun e' w'=>e'=.returned (.int .i64 (ew F1 S nd ix bs).1)/\
  bi0 w kb V (ew F1 S nd ix bs).2.1 (ew F1 S nd ix bs).2.2 (decide ((ew F1 S nd ix bs).1=0)) w':=by
 generalize hy:ew F1 S nd ix bs=y;have hE:S.R.L.length<F1:=by obtain ⟨S',hA⟩:=hG;have:=hA.core.len;rw [b42];omega
 have hklt:kb<w.heap.size:=World.block_lt_of_cell? w _ h.rd.ref.cl;go_enter Tryz.func85,Tryz.ntmps85
 go_wp2;go_loopg [10] (S.R.L.length) (fun k _ w'=>∃n S1 bs1 V1,Aside (S1.R.L.length=k/\S1.R.L.length<n/\ew n S1 nd ix bs1=y/\j2 S1/\RB w' kb S1 V1 bs1/\fh w kb V S1 V1 w'))
 case atStart=>exact ⟨F1,S,bs,V,⟨rfl,hE,hy,hG,h,⟨h.rd,Fr.refl _ _,fun k hk=>.inl hk⟩⟩⟩
 case round=>
  obtain ⟨n,S1,bs1,V1,hA⟩:=hrel;obtain ⟨hk,hn,hw,hG1,hB1,hO1⟩:=hA.out;clear hA hy hE h hG;obtain ⟨b1,b2,b3,b4,b5,_,b7,b8⟩:=hG1.bounds;have hkr:kb<wr.heap.size:=World.block_lt_of_cell? _ _ hB1.rd.ref.cl;obtain ⟨n',rfl⟩:∃n',n=n'+1:=⟨n-1,by omega⟩;cases hidx:S1.R.L.findIdx? (ee nd ix) with
  | none=>
   have HX:Hid (atI S1.R.L nd ix=-1):=by show _=_;unfold atI;rw [hidx];rfl
   have HY:Hid (y=(0,S1,bs1)):=by show _=_;rw [<- hw];unfold ew;simp only [hidx]
   clear hidx hw hk hn;go_wp2_with (go_at_call 82;go_must (refine (jj S1.R.L kb V1.lv nd ix _ (by omega) hB1.rd.ref.cl hB1.rd.ref.ll).mono ?_);rintro x4 w4 ⟨rfl,rfl⟩;rw [HX.out])
   go_ret;rw [HY.out];exact ⟨rfl,⟨V1,hO1,fun _=>hB1⟩⟩
  | some p=>
   obtain ⟨hp,_⟩:=List.findIdx?_eq_some_iff_getElem.1 hidx;have HX:Hid (atI S1.R.L nd ix=(p:Int)):=by show _=_;unfold atI;rw [hidx];rfl
   have hx1:=av7 S1.R.L p S1.R.L[p].up;have hx2:=ac_ S1.R.L p S1.R.L[p].up hp;by_cases hen:ie S1.R.L p S1.R.L[p].up=p+1
   ·have HY:Hid (y=(0,S1,bs1)):=by show _=_;rw [<- hw];unfold ew;simp only [hidx,List.getElem?_eq_getElem hp,if_pos hen]
    have HE:Hid (ie S1.R.L p S1.R.L[p].up=p+1):=hen;clear hidx hw hk hn hen hx1 hx2;go_wp2_with (first
     |(go_at_call 82;go_must (refine (jj S1.R.L kb V1.lv nd ix _ (by omega) hB1.rd.ref.cl hB1.rd.ref.ll).mono ?_);rintro x4 w4 ⟨rfl,rfl⟩;rw [HX.out])
     |(go_at_call 105;go_must (refine (me S1.R.L kb V1.lv p _ (by omega) hp hB1.rd.ref.cl hB1.rd.ref.ll).mono ?_);rintro x5 w5 ⟨rfl,q,rfl⟩;rw [HE.out]))
    go_ret;rw [HY.out];exact ⟨rfl,⟨V1,hO1.drewN q,fun _=>hB1.drewN q⟩⟩
   ·have hne:((ie S1.R.L p S1.R.L[p].up:Nat):Int)≠(p:Int)+1:=by omega
    have hne':(((ie S1.R.L p S1.R.L[p].up:Nat):Int)==(p:Int)+1)=false:=by simpa using hne
    have HL:Hid (cf S1.R.L p S1.R.L[p].up=iw S1.R.L S1.R.L[p].up p (ie S1.R.L p S1.R.L[p].up-(p+1))):=rfl;have hlk:=ar_ (L:=S1.R.L) (up:=S1.R.L[p].up) (p:=p) (ie S1.R.L p S1.R.L[p].up-(p+1));rw [<- HL.out] at hlk;have hlast:cf S1.R.L p S1.R.L[p].up<S1.R.L.length:=by
     obtain ⟨S',hAg⟩:=hG1;obtain ⟨k1,k2⟩:=hAg.core.rel.kidsOf p hp;cases hkd:c_ S'.K S1.R.L[p].slot with
     | false=>exact absurd (k1.2 hkd) hen
     | true=>exact (k2 hkd).1
    have hyw:y=(if (takeB S1 (cf S1.R.L p S1.R.L[p].up) S1.R.L[cf S1.R.L p S1.R.L[p].up] bs1).1=0 then ew n' (takeB S1 (cf S1.R.L p S1.R.L[p].up) S1.R.L[cf S1.R.L p S1.R.L[p].up] bs1).2.1 nd ix (takeB S1 (cf S1.R.L p S1.R.L[p].up) S1.R.L[cf S1.R.L p S1.R.L[p].up] bs1).2.2 else takeB S1 (cf S1.R.L p S1.R.L[p].up) S1.R.L[cf S1.R.L p S1.R.L[p].up] bs1):=by
     rw [<- hw];conv=>lhs;unfold ew
     simp only [hidx,List.getElem?_eq_getElem hp,if_neg hen,List.getElem?_eq_getElem hlast]
    have hlen:(takeB S1 (cf S1.R.L p S1.R.L[p].up) S1.R.L[cf S1.R.L p S1.R.L[p].up] bs1).2.1.R.L.length<S1.R.L.length:=by
     obtain ⟨S',hAg⟩:=hG1;exact (hAg.takeB hlast bs1).2.2.2.1
    have AS:Aside ((takeB S1 (cf S1.R.L p S1.R.L[p].up) S1.R.L[cf S1.R.L p S1.R.L[p].up] bs1).2.1.R.L.length<gk/\(takeB S1 (cf S1.R.L p S1.R.L[p].up) S1.R.L[cf S1.R.L p S1.R.L[p].up] bs1).2.1.R.L.length<n'/\
     y=(if (takeB S1 (cf S1.R.L p S1.R.L[p].up) S1.R.L[cf S1.R.L p S1.R.L[p].up] bs1).1=0 then ew n' (takeB S1 (cf S1.R.L p S1.R.L[p].up) S1.R.L[cf S1.R.L p S1.R.L[p].up] bs1).2.1 nd ix (takeB S1 (cf S1.R.L p S1.R.L[p].up) S1.R.L[cf S1.R.L p S1.R.L[p].up] bs1).2.2 else takeB S1 (cf S1.R.L p S1.R.L[p].up) S1.R.L[cf S1.R.L p S1.R.L[p].up] bs1)):=⟨by omega,by omega,hyw⟩
    have hGt:=hG1.take hlast;have hGb:=hG1.takeB hlast bs1;clear hyw hlen hw hk hn hidx hen;generalize hEn:ie S1.R.L p S1.R.L[p].up=x at hx1 hx2 hne hne' HL;have HEN:Hid (ie S1.R.L p S1.R.L[p].up=x):=hEn;clear hEn;obtain ⟨g1,c1,hlv,hcap1,hg1,_,_,_,_,_,_,_,_,u8p⟩:=fe hB1.rd.ref p hp;have hcl:=hB1.rd.ref.cl;rw [hlv] at hcl;have hup1:=b5 p hp;go_upto_region 5 with (first
     |(go_at_call 82;go_must (refine (jj S1.R.L kb V1.lv nd ix _ (by omega) hB1.rd.ref.cl hB1.rd.ref.ll).mono ?_);rintro x4 w4 ⟨rfl,rfl⟩;rw [HX.out])
     |(go_at_call 105;go_must (refine (me S1.R.L kb V1.lv p _ (by omega) hp hB1.rd.ref.cl hB1.rd.ref.ll).mono ?_);rintro x5 w5 ⟨rfl,q,rfl⟩;rw [HEN.out]))
    go_wp2;go_loopw [8,9] (fun last j w'=>∃k q2:Nat,j=.int .i64 ((p+1+k:Nat):Int)/\p+1+k<=x/\last=.int .i64 ((iw S1.R.L S1.R.L[p].up p k:Nat):Int)/\w'=w4.drewN q2) (fun _ j _=>x-(intOf j).toNat)
    case atStart=>exact ⟨0,q,by simp,by omega,by simp [iw],rfl⟩
    case round=>
     obtain ⟨k,q2,rfl,hk,rfl,rfl⟩:=hrel;by_cases hlt:p+1+k<x
     ·have hltL:p+1+k<S1.R.L.length:=by omega
      obtain ⟨g2,c2,hlv2,_,_,_,_,_,_,_,_,_,_,u8k⟩:=fe hB1.rd.ref (p+1+k) hltL;rw [hlv] at hlv2;cases hlv2
      have hupk:=b5 (p+1+k) hltL;have HT:Hid (iw S1.R.L S1.R.L[p].up p (k+1)=if S1.R.L[p+1+k].up=S1.R.L[p].up+1 then p+1+k else iw S1.R.L S1.R.L[p].up p k):=by
       show _=_;rw [iw,List.getElem?_eq_getElem hltL]
      have hltZ:((p+1+k:Nat):Int)<(x:Int):=by omega
      by_cases hu:S1.R.L[p+1+k].up=S1.R.L[p].up+1
      ·have hu':(S1.R.L[p+1+k].up==S1.R.L[p].up+1)=true:=by simpa using hu
       have HT2:Hid (iw S1.R.L S1.R.L[p].up p (k+1)=p+1+k):=by show _=_;rw [HT.out,if_pos hu]
       clear hu HT;go_wp2_with (go_at_call 105;go_must (refine (me S1.R.L kb V1.lv p _ (by omega) hp (hB1.drewN q2).rd.ref.cl (hB1.drewN q2).rd.ref.ll).mono ?_);rintro x5 w5 ⟨rfl,q3,rfl⟩;rw [HEN.out,mt])
       go_quiet (fail)
       go_wp2;go_roundw;case rel=>exact ⟨k+1,_,by first | rfl | congr 1 | (congr 1;omega),by omega,by rw [HT2.out];first | done | (push_cast;rfl),rfl⟩
       case measure=>simp [intOf];omega
      ·have hu':(S1.R.L[p+1+k].up==S1.R.L[p].up+1)=false:=by simpa using hu
       have HT2:Hid (iw S1.R.L S1.R.L[p].up p (k+1)=iw S1.R.L S1.R.L[p].up p k):=by show _=_;rw [HT.out,if_neg hu]
       clear hu HT;go_wp2_with (go_at_call 105;go_must (refine (me S1.R.L kb V1.lv p _ (by omega) hp (hB1.drewN q2).rd.ref.cl (hB1.drewN q2).rd.ref.ll).mono ?_);rintro x5 w5 ⟨rfl,q3,rfl⟩;rw [HEN.out,mt])
       go_quiet (fail)
       go_wp2;go_roundw;case rel=>exact ⟨k+1,_,by first | rfl | congr 1 | (congr 1;omega),by omega,by rw [HT2.out];first | done | (push_cast;rfl),rfl⟩
       case measure=>simp [intOf];omega
     ·obtain rfl:k=x-(p+1):=by omega
      rw [<- HL.out];have hnlt:¬((p+1+(x-(p+1)):Nat):Int)<(x:Int):=by omega
      generalize hlq:cf S1.R.L p S1.R.L[p].up=l at *
      have HLQ:Hid (cf S1.R.L p S1.R.L[p].up=l):=hlq;clear hlq;by_cases hb:(ar bs1).1=true
      ·have HB:Hid ((ar bs1).1=true):=hb;clear hb;go_wp2_with (first
        |(go_at_call 105;go_must (refine (me S1.R.L kb V1.lv p _ (by omega) hp (hB1.drewN q2).rd.ref.cl (hB1.drewN q2).rd.ref.ll).mono ?_);rintro x5 w5 ⟨rfl,q3,rfl⟩;rw [HEN.out,mt])
        |(go_at_call 102;go_must (refine (uw S1 V1 kb l _ (hB1.drewN _).rd hlast b1 b2 b3 b4 b8 b5 (b7 l hlast)).mono ?_);rintro x6 w6 ⟨rfl,V6,hO6,hbv6,hsv6⟩;have hB6:=(hB1.drewN _).after hO6 hbv6 hsv6)
        |(go_at_call 103;go_must (refine (zu _ V6 kb bs1 _ hB6).mono ?_);rintro x7 w7 ⟨rfl,⟨V7,hO7,hB7⟩⟩;rw [HB.out]))
       go_ret;obtain ⟨_,_,a3⟩:=AS.out;have hy1:takeB S1 l S1.R.L[l] bs1=(8,ik S1 l S1.R.L[l],(ar bs1).2):=by unfold takeB;rw [if_pos HB.out]
       rw [hy1,if_neg (by simp)] at a3;rw [a3];exact ⟨rfl,⟨V7,((hO1.drewN _).trans hO6).trans hO7,fun hf=>by simp at hf⟩⟩
      ·have hb':(ar bs1).1=false:=by simpa using hb
       have HB:Hid ((ar bs1).1=false):=hb';have HT1:Hid (takeB S1 l S1.R.L[l] bs1=(if (ao cg df F0 (ik S1 l S1.R.L[l]) (ar bs1).2).2.2 then 0 else 8,(ao cg df F0 (ik S1 l S1.R.L[l]) (ar bs1).2).1,(ao cg df F0 (ik S1 l S1.R.L[l]) (ar bs1).2).2.1)):=by
        show _=_;unfold takeB;rw [if_neg hb]
       clear hb hb';generalize hz:ao cg df F0 (ik S1 l S1.R.L[l]) (ar bs1).2=z at HT1;have HZ:Hid (ao cg df F0 (ik S1 l S1.R.L[l]) (ar bs1).2=z):=hz;clear hz;obtain ⟨z1,z2,z3⟩:=z;cases z3 with
       | true=>
        go_wp2_with (first
         |(go_at_call 105;go_must (refine (me S1.R.L kb V1.lv p _ (by omega) hp (hB1.drewN q2).rd.ref.cl (hB1.drewN q2).rd.ref.ll).mono ?_);rintro x5 w5 ⟨rfl,q3,rfl⟩;rw [HEN.out,mt])
         |(go_at_call 102;go_must (refine (uw S1 V1 kb l _ (hB1.drewN _).rd hlast b1 b2 b3 b4 b8 b5 (b7 l hlast)).mono ?_);rintro x6 w6 ⟨rfl,V6,hO6,hbv6,hsv6⟩;have hB6:=(hB1.drewN _).after hO6 hbv6 hsv6)
         |(go_at_call 103;go_must (refine (zu _ V6 kb bs1 _ hB6).mono ?_);rintro x7 w7 ⟨rfl,⟨V7,hO7,hB7⟩⟩;have hB7':=hB7 (by rw [HB.out];rfl);rw [HB.out])
         |(go_at_call 79;go_must (refine (uc _ V7 kb _ _ hB7' hGt).mono ?_);rintro x8 w8 ⟨rfl,⟨V8,hO8,hB8⟩⟩;rw [HZ.out] at hO8 hB8 ⊢))
        obtain ⟨a1,a2,a3⟩:=AS.out;rw [HT1.out] at a1 a2 a3 hGb;rw [if_pos (by simp)] at a3;go_roundg z1.R.L.length
        case measure=>exact a1
        case rel=>exact ⟨n',z1,z2,V8,⟨rfl,a2,a3.symm,hGb,hB8 (by first | rfl | trivial),(((hO1.drewN _).trans hO6).trans hO7).trans hO8⟩⟩
       | false=>
        go_wp2_with (first
         |(go_at_call 105;go_must (refine (me S1.R.L kb V1.lv p _ (by omega) hp (hB1.drewN q2).rd.ref.cl (hB1.drewN q2).rd.ref.ll).mono ?_);rintro x5 w5 ⟨rfl,q3,rfl⟩;rw [HEN.out,mt])
         |(go_at_call 102;go_must (refine (uw S1 V1 kb l _ (hB1.drewN _).rd hlast b1 b2 b3 b4 b8 b5 (b7 l hlast)).mono ?_);rintro x6 w6 ⟨rfl,V6,hO6,hbv6,hsv6⟩;have hB6:=(hB1.drewN _).after hO6 hbv6 hsv6)
         |(go_at_call 103;go_must (refine (zu _ V6 kb bs1 _ hB6).mono ?_);rintro x7 w7 ⟨rfl,⟨V7,hO7,hB7⟩⟩;have hB7':=hB7 (by rw [HB.out];rfl);rw [HB.out])
         |(go_at_call 79;go_must (refine (uc _ V7 kb _ _ hB7' hGt).mono ?_);rintro x8 w8 ⟨rfl,⟨V8,hO8,hB8⟩⟩;rw [HZ.out] at hO8 hB8 ⊢))
        go_ret;obtain ⟨a1,a2,a3⟩:=AS.out;rw [HT1.out,if_neg (by simp)] at a3;rw [a3];exact ⟨rfl,⟨V8,(((hO1.drewN _).trans hO6).trans hO7).trans hO8,fun hf=>by simp at hf⟩⟩
end Go.Proofs.YtdpjgflemddekaaGreatDoor
