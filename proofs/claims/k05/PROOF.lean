import PyProof.Rows.All
import Wide.All
import OpenK.AllK
import Wide.FinOn
import PySem.Challenge.RW_worthrooms_k05_exchanges
import HandS.Head0
import HandS.Head1
import HandS.Head2
import HandS.HeadHook4
import HandS.HeadWalk
import PyProof.ExcBaseAll.ValueError
import HandS.Flow
import HandS.ForMost
import HandS.ForExc
import HandS.ExcInit
import HandS.Defaults
import KE.KExcIs
import HandS.ExcField
import HandS.IsInst
import HandS.Codes
import HandS.TupAny
import HandS.AnyAll
import HandS.Walk
import PyProof.EqKinds
import PyProof.FactsAll.dict_1
import PyProof.FactsAll.subtypes_4
import PyProof.NeKinds
import KE.GoesMore
import KE.GoesEnum
import HandS.DictComp
import HandS.Deep
import HandS.List
import HandS.Iter
import HandS.Style
import HandS.Zip
import HandS.More
import HandS.WideBits
import HandS.Small
import HandS.TupSets
import HandS.DictTup
import PyProof.EqAt
import PyProof.FactsAll.subtypes_3
import HandS.EndTab
import PyProof.ReprRoads
set_option Elab.async false
set_option linter.all false
set_option maxRecDepth 100000
set_option maxHeartbeats 0
namespace WR
open PySem PySem.Spec PyProof.Rows L2
/-! ## An exception that a name keeps behind its suite -/
def ExK (cls : Value) (d : Option Addr) (a : Addr) : HO := .ext fun h => ∃ oe : Obj, h.get? a = some oe ∧ Zc cls d oe ∧ ∃ vs, oe.data = .fields vs
theorem exK_ok {P : Program} {w : World} {H : Hp} {h : Heap} {a : Addr} {cls : Value} {d : Option Addr} {oe : Obj} {vs : Array Value} (e : h.get? a = some oe) (z : Zc cls d oe) (hd : oe.data = .fields vs) :
    ObjOk P w H h a (ExK cls d a) :=
  ⟨⟨oe, e, z, vs, hd⟩, ⟨oe, e⟩, fun _ _ ⟨o, q, r⟩ k => ⟨o, k o q, r⟩⟩
theorem exK_at {P : Program} {w : World} {H : Hp} {h : Heap} {a : Addr} {cls : Value} {d : Option Addr} (ok : HOk P w H h) (e : H a = some (ExK cls d a)) : ∃ oe : Obj, h.get? a = some oe ∧ Zc cls d oe ∧ ∃ vs, oe.data = .fields vs := by
  have x : ObjOk P w H h a (.ext fun h => ∃ oe : Obj, h.get? a = some oe ∧ Zc cls d oe ∧ ∃ vs, oe.data = .fields vs) := ok a _ e
  exact x.1
section
variable {X : Cx} {pins : List (Addr × Obj)} {σ : L2.St} {H : Hp} {s : Shared}
/-- a pinned object of ours becomes a tracked one -/
theorem inv_track {a : Addr} {oe : Obj} {o : HO} (J : Inv X ((a, oe) :: pins) σ H s) (h0 : X.s_0.heap.get? a = none) (np : ∀ p ∈ X.pn ++ pins, p.1 ≠ a) (new : ObjOk X.prog X.w (upd H a o) s.heap a o) :
    Inv X pins σ (upd H a o) s := by
  obtain ⟨hget, hna, hnl, hnf, hnc⟩ := J.pin (a, oe) (List.mem_append_right _ List.mem_cons_self)
  have old : ∀ b u, H b = some u → upd H a o b = some u := fun b u q => by
    rw [upd_ne (ne_of_none q hna)]; exact q
  have off : ∀ b, b ≠ a → upd H a o b = H b := fun b hb => upd_ne hb
  constructor
  · exact J.ok
  · exact J.os
  · exact J.bare
  · constructor
    · exact J.base.keep
    · exact J.base.slot
    · intro b u q n hx
      rw [off b (fun z => by rw [z, h0] at q; cases q)]
      exact J.base.free b u q n hx
    · exact J.base.there
    · exact fun b xs q => old _ _ (J.base.tups b xs q)
    · exact fun b u xs q => old _ _ (J.base.frzs b u xs q)
    · intro b ps q
      obtain ⟨more, q2⟩ := J.base.tbls b ps q
      exact ⟨more, old _ _ q2⟩
  · exact J.loc
  · exact J.cell
  · rw [off _ (Ne.symm hnl)]; exact J.free
  · intro y c q
    have hc : c ≠ a := by
      rintro rfl
      obtain ⟨v, u, q1, q2⟩ := J.cell y c q
      have q3 : s.heap.get? c = some oe := hget
      rw [q3] at q1
      cases q1
      exact hnc v q2
    rw [off _ hc]; exact J.freeC y c q
  · intro p hp
    have hp2 : p ∈ X.pn ++ (a, oe) :: pins := by
      rcases List.mem_append.mp hp with z | z
      · exact List.mem_append_left _ z
      · exact List.mem_append_right _ (List.mem_cons_of_mem _ z)
    obtain ⟨q1, q2, q3, q4, q5⟩ := J.pin p hp2
    exact ⟨q1, by rw [off _ (np p hp)]; exact q2, q3, q4, q5⟩
  · intro b u q
    by_cases hb : b = a
    · subst hb
      rw [upd_same] at q
      cases q
      exact new
    · rw [off b hb] at q
      exact (J.hok b u q).stay (fun _ _ _ z => z) (fun c z => old _ _ z) fun c xs z => old _ _ z
  · exact J.len
/-- out of the suite, the exception still pinned -/
theorem inv_unsuite {a : Addr} {q : Addr × Obj} (J : Inv (X.suite a (q :: (X.pn ++ pins))) [] σ H s) (ok : X.Ok) : Inv X (q :: pins) σ H s := by
  have sub : ∀ p ∈ X.pn ++ q :: pins, p ∈ (X.suite a (q :: (X.pn ++ pins))).pn ++ [] := fun p hp => by
    rw [List.append_nil]
    rcases List.mem_append.mp hp with z | z
    · exact List.mem_cons_of_mem _ (List.mem_append_left _ z)
    · rcases List.mem_cons.mp z with z | z
      · rw [z]; exact List.mem_cons_self
      · exact List.mem_cons_of_mem _ (List.mem_append_right _ z)
  exact { ok := ok, os := J.os, bare := J.bare, base := J.base, loc := J.loc, cell := J.cell, free := J.free, freeC := J.freeC, pin := fun p hp => J.pin p (sub p hp), hok := J.hok, len := J.len }
end
/-- what «except x as n: c = n» wishes of an exception of the body: n in slot i, c in slot j -/
def wKeep (K : PySem.W.Frag) (C : Value) (i j : Nat) (D : Ends) : WX := fun cls d σ H =>
  PySem.W.exmOne K cls C = some true ∧ ∀ a, H a = none → D.nx (((σ.set i (some (.ref a))).set j (some (.ref a))).set i none) (upd H a (ExK cls d a))
section
variable {X : Cx} {x n c : Str} {C : Value} {i j : Nat} {body : List Stmt} {np pos pos' p1 p2 p3 : Pos} {tb : WX → TS}
theorem ps_try_keep (hs : X.stack = X.env :: X.outer) (hf : X.env.frame = some X.env.locals) (hex : X.ex = []) (hN : X.N.Nodup) (hi : X.N[i]? = some n) (hln : X.env.kindOf n = some .local) (hj : X.N[j]? = some c) (hlc : X.env.kindOf c = some .local) (hc : Names X x C)
    (hb : ∀ (W : WX) (pn : List (Addr × Obj)) (xe : Value → Shared → Prop), Takes (X.tr pn xe) W → PassesOwn (model X.prog X.w) X.A X.env xe → PSs (X.tr pn xe) body (tb W))
    (hdb : (n == ("__debug__" : Str)) = false := by decide) (hcd : (n == ("__classdict__" : Str)) = false := by decide) :
    PS X (.Try body [.ExceptHandler (some (.Name x np)) (some n) [.Assign [.Name c p1] (.Name n p2) p3] pos'] [] [] pos) (fun D σ H => tb (wKeep X.K C i j D) D σ H) := by
  constructor
  intro pins s σ H D I h
  have ok := I.ok
  have hfr : X.A.frames = some (X.env :: X.outer) := by rw [ok.frames, hs]
  have hlocn : Loc X.env.scope n := Or.inl hln
  have hlocc : Loc X.env.scope c := Or.inl hlc
  refine wpAny_Try_except ?_
  refine wpAny_mono ((hb (wKeep X.K C i j D) (X.pn ++ pins) (fun er r1 => wpAny (model X.prog X.w) X.A (noteFrame er X.env) (fun _ r2 => wpAny (model X.prog X.w) X.A (setFlight er none) (fun _ r3 =>
    wpAny (model X.prog X.w) X.A (handleBy er X.env [.ExceptHandler (some (.Name x np)) (some n) [.Assign [.Name c p1] (.Name n p2) p3] pos']) (SP X pins D) X.xe r3) X.xe r2) X.xe r1) (fun er s' hair => ?caught) PassesOwn.looking).run [] s σ H D (I.toTry _) h) (fun f s1 hsp => ?thru) (fun er s1 he => he)
  case thru =>
    cases f with
    | next =>
      obtain ⟨τ, G, J, q⟩ := hsp
      exact wpAny_execs_nil ⟨τ, G, J.ofTry ok, q⟩
    | brk =>
      obtain ⟨τ, G, J, q⟩ := hsp
      exact ⟨τ, G, J.ofTry ok, q⟩
    | cont =>
      obtain ⟨τ, G, J, q⟩ := hsp
      exact ⟨τ, G, J.ofTry ok, q⟩
    | ret u =>
      obtain ⟨v, τ, G, J, r, q⟩ := hsp
      exact ⟨v, τ, G, J.ofTry ok, r, q⟩
  case caught =>
    obtain ⟨a, B, sI, ps, τ, G, cls, d, rfl, J0, nb, up, sky, na, os, ag, hb1, hyes⟩ := hair
    have J : Inv X pins τ G sI := J0.ofTry ok
    rw [show (X.tr (X.pn ++ pins) _).stack = X.env :: X.outer from hs] at sky
    show wpAny (model X.prog X.w) X.A (noteFrame (.ref a) X.env) _ _ _
    refine Sky.land Zc.steady hfr hf sky fun k3 fly3 up3 => ?_
    have J3 : Inv X pins τ G { s' with heap := k3 } := J.landed nb fly3.1 (up.trans up3) os ag
    obtain ⟨oe3, vs3, at3, z3, d3⟩ := fly3.there
    have nofr : a ∉ frs (X.env :: X.outer) := fun hm => by
      obtain ⟨_, ob, at4, hnf⟩ := fly3.2.2.1.mem hm
      rw [at3] at at4
      cases at4
      exact hnf _ d3
    have nL : a ≠ X.env.locals := fun z => nofr (List.mem_filterMap.mpr ⟨X.env, List.mem_cons_self, by rw [hf, z]⟩)
    have nF : a ∉ X.fs := fun hm => by
      obtain ⟨en, hen, q⟩ := List.mem_filterMap.mp hm
      exact nofr (List.mem_filterMap.mpr ⟨en, List.mem_cons_of_mem _ hen, q⟩)
    have newI : sI.heap.get? a = none := by
      cases q : sI.heap.get? a with
      | none => rfl
      | some ob =>
        have z := nb a ob q (by rw [show (X.tr (X.pn ++ pins) _).stack = X.env :: X.outer from hs]; exact nofr)
        rw [fly3.2.1] at z
        cases z
    have new0 : X.s_0.heap.get? a = none := by
      cases q : X.s_0.heap.get? a with
      | none => rfl
      | some ob =>
        obtain ⟨ob2, z⟩ := J.base.there a ob q (by rw [hex]; simp)
        rw [newI] at z
        cases z
    have npin : ∀ p ∈ X.pn ++ pins, p.1 ≠ a := fun p hp z => by
      have q := (J.pin p hp).1
      rw [z, newI] at q
      cases q
    have S3 := J3.suite at3 d3 na nL nF
    refine wpAny_handleBy_cons (codeAny_handlers_test ?_) (by intro q; cases q)
    have LT : PySem.W.Looks (model X.prog X.w) k3 (typeOf (.ref a)) cls := fun A2 Q2 E2 s2 k q => wpAny_typeOf_ref (k _ _ at3) (by rw [z3.1]; exact q)
    have LM := PySem.W.exm_one (M := model X.prog X.w) (J3.kIn) LT hb1
    have clause : ∀ {Q : Value → Shared → Prop} {E : Value → Shared → Prop}, Q C { s' with heap := k3 } → wpAny (model X.prog X.w) (X.A.mark (some (.ref a))) (eval (.Name x np) X.env) Q E { s' with heap := k3 } := fun {Q E} q => by
      obtain ⟨hg, hdbg, hm | ⟨hm, hv, hnn⟩⟩ := hc
      · exact ld_glob (X := X.suite a ((a, oe3) :: (X.pn ++ pins))) S3 hg hm q hdbg
      · exact ld_blt (X := X.suite a ((a, oe3) :: (X.pn ++ pins))) S3 hg hm hv q hnn hdbg
    refine clause (LM.here ?_)
    refine codeAny_handlers_suite_as ?_
    refine HandSPX.lands_againZ fly3 fun k4 fly4 up4 => ?_
    have J4 : Inv X pins τ G { s' with heap := k4 } := J.landed nb fly4.1 ((up.trans up3).trans up4) os ag
    obtain ⟨oe4, vs4, at4, z4, d4⟩ := fly4.there
    have S4 := J4.suite at4 d4 na nL nF
    refine store_ok (X := X.suite a ((a, oe4) :: (X.pn ++ pins))) (v := .ref a) S4 hN hi hlocn rfl (fun s5 S5 => ?_) (Or.inr hln)
    have body1 : PSs (X.suite a ((a, oe4) :: (X.pn ++ pins))) [.Assign [.Name c p1] (.Name n p2) p3] (tAsg (tVar i) (gName j)) :=
      pss_one (ps_set (i := j) hN hj hlocc (pe_var (i := i) hi (Or.inl hln) hdb hcd) (by rfl) (Or.inr hlc))
    refine wpAny_mono (body1.run [] s5 _ G { nx := fun σ6 H6 => σ6 = (τ.set i (some (.ref a))).set j (some (.ref a)) ∧ H6 = G, rt := fun _ _ => False, bk := fun _ _ => False, ct := fun _ _ => False } S5 ?_) (fun f s6 hsp => ?_) (fun _ _ z => False.elim z)
    · refine ⟨.ref a, ?_, rfl, rfl⟩
      have hl : i < τ.length := by rw [J.len]; exact (List.getElem?_eq_some_iff.mp hi).1
      exact List.getElem?_set_self hl
    · cases f with
      | next =>
        obtain ⟨σ6, H6, S6, rfl, rfl⟩ := hsp
        refine gone_ok (inv_unsuite S6 ok) hN hi hln fun s7 J7 => ?_
        obtain ⟨at7, _⟩ := J7.pin (a, oe4) (List.mem_append_right _ List.mem_cons_self)
        exact ⟨_, _, inv_track J7 new0 npin (exK_ok at7 z4 d4), hyes a na⟩
      | brk =>
        obtain ⟨_, _, _, q⟩ := hsp
        exact q.elim
      | cont =>
        obtain ⟨_, _, _, q⟩ := hsp
        exact q.elim
      | ret u =>
        obtain ⟨_, _, _, _, _, q⟩ := hsp
        exact q.elim
end
end WR
namespace WR
open PySem PySem.Spec PyProof.Rows L2
/-! ## isinstance and fields of a kept exception -/
structure ExcI (K : PySem.W.Frag) (D : Addr) : Prop where
  c1 : (PySem.W.clsIn K D).isSome = true
  c2 : PySem.W.findIn K (.ref D) "__getattribute__" = some (some (.builtin "BaseException.__getattribute__"))
  c3 : PySem.W.findIn K (.ref D) "__getattr__" = some none
  c4 : PySem.W.subIn K (.ref D) (.type "BaseException") = some true
  c5 : PySem.W.findIn K (.ref D) "__class__" = some (some (.builtin "object.__class__"))
  c6 : PySem.W.specialIn K (.builtin "object.__class__") "__get__" = some (some (.builtin "getset_descriptor.__get__"))
  c7 : PySem.W.takesIn K (.builtin "object.__class__") = some true
  c8 : PySem.W.mroIn K D (.type "object") = some true
  c9 : PySem.W.hasDictIn K D = true
/-- the dict's address, if there is one, is tracked -/
def DictAt (H : Hp) (d : Option Addr) : Prop := d = none ∨ ∃ dd fs, d = some dd ∧ H dd = some (.xd fs)
inductive Kept (K : PySem.W.Frag) (H : Hp) : V → Value → Prop where
  | non : Kept K H .non (.type "NoneType")
  | exc {a D : Addr} {d : Option Addr} (e : H a = some (ExK (.ref D) d a)) (ed : DictAt H d) (C : ExcI K D) : Kept K H (.ref a) (.ref D)
def rIsK (K : PySem.W.Frag) : List V → Hp → VK → Prop := fun xs H Q => ∃ (x c : V) (t u : Value) (b : Bool), xs = [x, c] ∧ ClsV c u ∧ Kept K H x t ∧ PySem.W.kitOne K t u = some b ∧ Q (.bl b) H
section
variable {X : Cx} {pins : List (Addr × Obj)} {σ : L2.St} {H : Hp} {s : Shared}
theorem xd_there {a : Addr} {fs : List (Str × V)} (I : Inv X pins σ H s) (e : H a = some (.xd fs)) : ∃ o, s.heap.get? a = some o := by
  obtain ⟨mA, ⟨o, _, _, q, _⟩, _⟩ := (show ObjOk X.prog X.w H s.heap a (.xd fs) from I.hok a _ e)
  exact ⟨o, q⟩
theorem call_isK : CallR X (.builtin "isinstance") (rIsK X.K) := by
  intro pins s σ H xs us Q I r h
  obtain ⟨x, c, t, u, b, rfl, k, kp, e, q⟩ := h
  obtain ⟨u1, u2, rfl, r1, r2⟩ := vals2 r
  have e2 := k.eq r2
  subst e2
  cases kp with
  | non =>
    cases (show u1 = Value.none from r1)
    exact PySem.W.kia_one PySem.W.kitx_none I.kIn True.intro e (fun z => nomatch z) fun tk => ⟨.bl b, H, I.tok tk, rfl, q⟩
  | @exc a D d ea ed C =>
    cases (show u1 = Value.ref a from r1)
    obtain ⟨oe, q1, ⟨q2, q3⟩, vs, q4⟩ := exK_at I.hok ea
    have nc : PySem.W.notCls oe = true := by unfold PySem.W.notCls; rw [q4] <;> rfl
    have inst : ∃ od, PySem.W.InstAt s.heap a oe D od := by
      rcases ed with z | ⟨dd, fs, z, ez⟩
      · exact ⟨none, q1, q2, nc, by rw [q3, z] <;> exact True.intro⟩
      · obtain ⟨o, z2⟩ := xd_there I ez
        exact ⟨some o, q1, q2, nc, by rw [q3, z] <;> exact z2⟩
    obtain ⟨od, J⟩ := inst
    exact PySem.W.kia_one (PySem.W.kitx_exc C.c1 C.c2 C.c3 C.c4 C.c5 C.c6 C.c7 C.c8) I.kIn J e (fun z => nomatch z) fun tk => ⟨.bl b, H, I.tok tk, rfl, q⟩
end
/-- c.f, c a name that keeps an exception of the class D -/
def tKept (K : PySem.W.Frag) (f : Str) (te : TE) : TE := fun σ H Q => te σ H fun x H1 => ∃ (a D dd : Addr) (fs : List (Str × V)) (v : V),
  x = .ref a ∧ H1 a = some (ExK (.ref D) (some dd) a) ∧ H1 dd = some (.xd fs) ∧ ExcI K D ∧ PySem.W.findIn K (.ref D) f = some none ∧ fs.lookup f = some v ∧ Q v H1
theorem pe_kept {X : Cx} {e : Expr} {te : TE} {f : Str} {pos : Pos} (he : PE X e te) (hb : attributeBase e f X.env (eval e X.env) = eval e X.env := by rfl) : PE X (.Attribute e f pos) (tKept X.K f te) := by
  constructor
  intro pins s σ H Q I h
  refine attr_of hb (thn (he.run pins s σ H _ I h) fun u s1 z => ?_)
  obtain ⟨x, H1, J, rx, a, D, dd, fs, v, rfl, ea, ed, C, hno, hl, q⟩ := z
  cases (show u = Value.ref a from rx)
  obtain ⟨oe, q1, ⟨q2, q3⟩, vs, q4⟩ := exK_at J.hok ea
  obtain ⟨mA, hns, hr⟩ := (show ObjOk X.prog X.w H1 s1.heap dd (.xd fs) from J.hok dd _ ed)
  obtain ⟨od, ho, hlook⟩ := lookIn_ns hns
  have hrf := hr f
  rw [hl] at hrf
  cases hm : mA f with
  | none => rw [hm] at hrf; exact hrf.elim
  | some u2 =>
    rw [hm] at hrf
    have IA : PySem.W.InstAt s1.heap a oe D (some od) := ⟨q1, q2, by unfold PySem.W.notCls; rw [q4] <;> rfl, by rw [q3] <;> exact ho⟩
    exact HandSPX.exc_get J.kIn IA C.c2 C.c3 C.c4 (PySem.W.findObj_own C.c9 hno rfl (by rw [hlook, hm])) (handed_of (show RelV v u2 from hrf)) ⟨v, H1, J.tok _, hrf, q⟩
/-- the Bool for the head -/
def excIB (K : PySem.W.Frag) (D : Addr) : Bool :=
  (PySem.W.clsIn K D).isSome && (decide (PySem.W.findIn K (.ref D) "__getattribute__" = some (some (.builtin "BaseException.__getattribute__"))) && (decide (PySem.W.findIn K (.ref D) "__getattr__" = some none) &&
  (decide (PySem.W.subIn K (.ref D) (.type "BaseException") = some true) && (decide (PySem.W.findIn K (.ref D) "__class__" = some (some (.builtin "object.__class__"))) &&
  (decide (PySem.W.specialIn K (.builtin "object.__class__") "__get__" = some (some (.builtin "getset_descriptor.__get__"))) && (decide (PySem.W.takesIn K (.builtin "object.__class__") = some true) &&
  (decide (PySem.W.mroIn K D (.type "object") = some true) && PySem.W.hasDictIn K D)))))))
theorem excIB_ok {K : PySem.W.Frag} {D : Addr} (h : excIB K D = true) : ExcI K D := by
  unfold excIB at h
  simp only [Bool.and_eq_true, decide_eq_true_eq] at h
  obtain ⟨a1, a2, a3, a4, a5, a6, a7, a8, a9⟩ := h
  exact ⟨a1, a2, a3, a4, a5, a6, a7, a8, a9⟩
end WR
namespace WR
open PySem PySem.Spec PyProof.Rows L2
/-! ## What stays: all that is tracked; tables of code objects may grow -/
structure StayT (H H' : Hp) : Prop where
  same : ∀ b o, H b = some o → (∀ ps, o ≠ .tbl ps) → H' b = some o
  tab : ∀ b ps, H b = some (.tbl ps) → ∃ ps', H' b = some (.tbl ps') ∧ (TriplesOk ps.toList → TriplesOk ps'.toList)
theorem StayT.refl (H : Hp) : StayT H H := ⟨fun _ _ e _ => e, fun _ ps e => ⟨ps, e, id⟩⟩
theorem StayT.trans {H H1 H2 : Hp} (a : StayT H H1) (b : StayT H1 H2) : StayT H H2 := by
  refine ⟨fun c o e n => b.same c o (a.same c o e n) n, fun c ps e => ?_⟩
  obtain ⟨p1, e1, t1⟩ := a.tab c ps e
  obtain ⟨p2, e2, t2⟩ := b.tab c p1 e1
  exact ⟨p2, e2, fun t => t2 (t1 t)⟩
theorem StayT.none {H H' : Hp} {p : Addr} (s : StayT H H') (h : H' p = none) : H p = none := by
  cases q : H p with
  | none => rfl
  | some o =>
    by_cases t : ∃ ps, o = .tbl ps
    · obtain ⟨ps, rfl⟩ := t
      obtain ⟨ps2, e, _⟩ := s.tab p ps q
      rw [h] at e
      cases e
    · have e := s.same p o q fun ps z => t ⟨ps, z⟩
      rw [h] at e
      cases e
/-- what is not in H may change -/
theorem StayT.upd {H H' : Hp} {p : Addr} {o : HO} (s : StayT H H') (h : H p = Option.none) : StayT H (L2.upd H' p o) := by
  refine ⟨fun b u e n => ?_, fun b ps e => ?_⟩
  · rw [upd_ne (ne_of_none e h)]; exact s.same b u e n
  · rw [upd_ne (ne_of_none e h)]; exact s.tab b ps e
theorem StayT.new {H H' : Hp} {p : Addr} {o : HO} (s : StayT H H') (h : H' p = Option.none) : StayT H (L2.upd H' p o) := s.upd (s.none h)
theorem StayT.tabbed {P : Addr} {H H' : Hp} (t : GxR.Tabbed P H H') (hP : GxR.TabG H P) : StayT H H' := by
  obtain ⟨⟨ps, e, ok⟩, q⟩ := t
  obtain ⟨qs, e0, _⟩ := hP
  refine ⟨fun b o eb n => ?_, fun b rs eb => ?_⟩
  · have hb : b ≠ P := fun z => by
      rw [z, e0] at eb
      cases eb
      exact n _ rfl
    rw [q b hb]; exact eb
  · by_cases hb : b = P
    · exact ⟨ps, by rw [hb]; exact e, fun _ => ok⟩
    · exact ⟨rs, by rw [q b hb]; exact eb, id⟩
theorem StayT.tabG {H H' : Hp} {P : Addr} (s : StayT H H') (t : GxR.TabG H P) : GxR.TabG H' P := by
  obtain ⟨ps, e, ok⟩ := t
  obtain ⟨p2, e2, t2⟩ := s.tab P ps e
  exact ⟨p2, e2, t2 ok⟩
/-- H without what stands at p -/
def wo (H : Hp) (p : Addr) : Hp := fun b => if b = p then none else H b
theorem wo_same {H : Hp} {p : Addr} : wo H p p = none := if_pos rfl
theorem wo_ne {H : Hp} {p b : Addr} (h : b ≠ p) : wo H p b = H b := if_neg h
theorem wo_some {H : Hp} {p b : Addr} {o : HO} (e : wo H p b = some o) : b ≠ p ∧ H b = some o := by
  by_cases h : b = p
  · rw [h, wo_same] at e; cases e
  · rw [wo_ne h] at e; exact ⟨h, e⟩
theorem stay_wo (H : Hp) (p : Addr) : StayT (wo H p) H :=
  ⟨fun b o e _ => (wo_some e).2, fun b ps e => ⟨ps, (wo_some e).2, id⟩⟩
/-- all but p stays, on and on -/
theorem StayT.transP {H H1 H2 : Hp} {p : Addr} (a : StayT (wo H p) H1) (b : StayT (wo H1 p) H2) : StayT (wo H p) H2 := by
  refine ⟨fun c o e n => b.same c o ?_ n, fun c ps e => ?_⟩
  · rw [wo_ne (wo_some e).1]; exact a.same c o e n
  · obtain ⟨p1, e1, t1⟩ := a.tab c ps e
    obtain ⟨p2, e2, t2⟩ := b.tab c p1 (by rw [wo_ne (wo_some e).1]; exact e1)
    exact ⟨p2, e2, fun t => t2 (t1 t)⟩
theorem StayT.into {H H' : Hp} {p : Addr} (a : StayT (wo H p) H') : StayT (wo H p) (wo H' p) := by
  refine ⟨fun c o e n => ?_, fun c ps e => ?_⟩
  · rw [wo_ne (wo_some e).1]; exact a.same c o e n
  · obtain ⟨p1, e1, t1⟩ := a.tab c ps e
    exact ⟨p1, by rw [wo_ne (wo_some e).1]; exact e1, t1⟩
theorem StayT.less {H H' : Hp} {p : Addr} (a : StayT H H') : StayT (wo H p) H' := (stay_wo H p).trans a
/-! ## Data: none, truths, numbers, texts, lists, tuples, the empty dict -/
mutual
inductive DV (H : Hp) : V → PyData → Prop
  | non : DV H .non .none
  | bl (b : Bool) : DV H (.bl b) (.bool b)
  | int (i : Int) : DV H (.int i) (.int i)
  | str {x : Str} (hl : x.length ≤ 1000) (ho : PySem.PyData.strOk x = true) : DV H (.str x) (.str x)
  | lst {a : Addr} {xs : List V} {ds : List PyData} (e : H a = some (.lst xs)) (h : DVs H xs ds) (hl : ds.length ≤ 1000) : DV H (.ref a) (.list ds)
  | tup {a : Addr} {xs : List V} {ds : List PyData} (e : H a = some (.tup xs)) (h : DVs H xs ds) (hl : ds.length ≤ 1000) : DV H (.ref a) (.tuple ds)
  | dct {a : Addr} (e : H a = some (.dK [])) : DV H (.ref a) (.dict [])
inductive DVs (H : Hp) : List V → List PyData → Prop
  | nil : DVs H [] []
  | cons {v : V} {vs : List V} {d : PyData} {ds : List PyData} (h : DV H v d) (t : DVs H vs ds) : DVs H (v :: vs) (d :: ds)
end
mutual
theorem DV.stay {H H' : Hp} (s : StayT H H') : ∀ {v : V} {d : PyData}, DV H v d → DV H' v d
  | _, _, .non => .non
  | _, _, .bl b => .bl b
  | _, _, .int i => .int i
  | _, _, .str hl ho => .str hl ho
  | _, _, .lst e h hl => .lst (s.same _ _ e fun _ z => nomatch z) (DVs.stay s h) hl
  | _, _, .tup e h hl => .tup (s.same _ _ e fun _ z => nomatch z) (DVs.stay s h) hl
  | _, _, .dct e => .dct (s.same _ _ e fun _ z => nomatch z)
theorem DVs.stay {H H' : Hp} (s : StayT H H') : ∀ {vs : List V} {ds : List PyData}, DVs H vs ds → DVs H' vs ds
  | _, _, .nil => .nil
  | _, _, .cons h t => .cons (DV.stay s h) (DVs.stay s t)
end
theorem DVs.length {H : Hp} : ∀ {vs : List V} {ds : List PyData}, DVs H vs ds → vs.length = ds.length
  | _, _, .nil => rfl
  | _, _, .cons _ t => congrArg Nat.succ (DVs.length t)
theorem DVs.get {H : Hp} : ∀ {vs : List V} {ds : List PyData} {i : Nat} {v : V}, DVs H vs ds → vs[i]? = some v → ∃ d, ds[i]? = some d ∧ DV H v d
  | _, _, _, _, .nil, e => by simp at e
  | _, _, 0, _, .cons h _, e => by
    simp at e
    subst e
    exact ⟨_, rfl, h⟩
  | _, _, i + 1, v, .cons _ t, e => by
    obtain ⟨d, q, h⟩ := DVs.get (i := i) (v := v) t (by simpa using e)
    exact ⟨d, by simpa using q, h⟩
theorem DVs.got {H : Hp} : ∀ {vs : List V} {ds : List PyData} {i : Nat} {d : PyData}, DVs H vs ds → ds[i]? = some d → ∃ v, vs[i]? = some v ∧ DV H v d
  | _, _, _, _, .nil, e => by simp at e
  | _, _, 0, _, .cons h _, e => by
    simp at e
    subst e
    exact ⟨_, rfl, h⟩
  | _, _, i + 1, d, .cons _ t, e => by
    obtain ⟨v, q, h⟩ := DVs.got (i := i) (d := d) t (by simpa using e)
    exact ⟨v, by simpa using q, h⟩
theorem DVs.append {H : Hp} : ∀ {vs ws : List V} {ds es : List PyData}, DVs H vs ds → DVs H ws es → DVs H (vs ++ ws) (ds ++ es)
  | _, _, _, _, .nil, s => s
  | _, _, _, _, .cons h t, s => .cons h (DVs.append t s)
theorem DVs.take {H : Hp} : ∀ {vs : List V} {ds : List PyData} (n : Nat), DVs H vs ds → DVs H (vs.take n) (ds.take n)
  | _, _, 0, _ => .nil
  | _, _, _ + 1, .nil => .nil
  | _, _, n + 1, .cons h t => .cons h (DVs.take n t)
theorem DVs.drop {H : Hp} : ∀ {vs : List V} {ds : List PyData} (n : Nat), DVs H vs ds → DVs H (vs.drop n) (ds.drop n)
  | _, _, 0, r => r
  | _, _, _ + 1, .nil => .nil
  | _, _, n + 1, .cons _ t => DVs.drop n t
/-- all texts are texts, no dict -/
theorem DVs.one {H : Hp} {v : V} {d : PyData} (h : DV H v d) : DVs H [v] [d] := .cons h .nil
theorem DVs.two {H : Hp} {v v2 : V} {d d2 : PyData} (h : DV H v d) (h2 : DV H v2 d2) : DVs H [v, v2] [d, d2] := .cons h (.cons h2 .nil)
mutual
/-- plain data is the layer's data -/
theorem DV.dp {K : PySem.W.Frag} {H : Hp} : ∀ {v : V} {d : PyData}, DV H v d → d.hasDict = false → Dp K H v d
  | _, _, .non, _ => .non
  | _, _, .bl b, _ => .bl b
  | _, _, .int i, _ => .int i
  | _, _, .str _ _, _ => .str _
  | _, _, .lst e h _, n => .lst (.inl (.inl e)) (DVs.dps h (by simpa [PyData.hasDict] using n))
  | _, _, .tup e h _, n => .tup (.inl (.inl e)) (DVs.dps h (by simpa [PyData.hasDict] using n))
  | _, _, .dct e, n => by simp [PyData.hasDict] at n
theorem DVs.dps {K : PySem.W.Frag} {H : Hp} : ∀ {vs : List V} {ds : List PyData}, DVs H vs ds → PyData.hasDictAll ds = false → DpAll K H vs ds
  | _, _, .nil, _ => .nil
  | _, _, .cons h t, n => by
    simp only [PyData.hasDictAll, Bool.or_eq_false_iff] at n
    exact .cons (DV.dp h n.1) (DVs.dps t n.2)
end
mutual
theorem DV.canLay {H : Hp} : ∀ {v : V} {d : PyData}, DV H v d → d.hasDict = false → d.canLay0 = true
  | _, _, .non, _ => rfl
  | _, _, .bl b, _ => rfl
  | _, _, .int i, _ => rfl
  | _, _, .str _ ho, _ => by simpa [PyData.canLay0] using ho
  | _, _, .lst e h _, n => by
    have q := DVs.canLays h (by simpa [PyData.hasDict] using n)
    simpa [PyData.canLay0] using q
  | _, _, .tup e h _, n => by
    have q := DVs.canLays h (by simpa [PyData.hasDict] using n)
    simpa [PyData.canLay0] using q
  | _, _, .dct e, n => by simp [PyData.hasDict] at n
theorem DVs.canLays {H : Hp} : ∀ {vs : List V} {ds : List PyData}, DVs H vs ds → PyData.hasDictAll ds = false → PyData.canLayAll0 ds = true
  | _, _, .nil, _ => rfl
  | _, _, .cons h t, n => by
    simp only [PyData.hasDictAll, Bool.or_eq_false_iff] at n
    simp only [PyData.canLayAll0, DV.canLay h n.1, DVs.canLays t n.2, Bool.and_true]
end
/-! ## Rules over data -/
def tyD : PyData → String
  | .none => "NoneType"
  | .bool _ => "bool"
  | .int _ => "int"
  | .str _ => "str"
  | .list _ => "list"
  | .tuple _ => "tuple"
  | .dict _ => "dict"
theorem DV.ty {K : PySem.W.Frag} {H : Hp} {v : V} {d : PyData} (h : DV H v d) : TyX K H v (.type (tyD d)) := by
  cases h with
  | non => exact .base .non
  | bl b => exact .base (.bl b)
  | int i => exact .base (.int i)
  | str _ _ => exact .base (.str _)
  | lst e _ _ => exact .base (.lst e)
  | tup e _ _ => exact .base (.tup e)
  | dct e => exact .base (.dK e)
/-- isinstance(x, n) by the kind -/
def isT (n t : String) : Bool := n == t || (t == "bool" && n == "int")
def isD (n : String) (d : PyData) : Bool := isT n (tyD d)
theorem isT_kit : ∀ t ∈ ["NoneType", "bool", "int", "str", "list", "tuple", "dict"], (kitB t "int" = some (isT "int" t) ∧ kitB t "bool" = some (isT "bool" t)) ∧ (kitB t "str" = some (isT "str" t) ∧ kitB t "tuple" = some (isT "tuple" t)) := by
  decide +kernel
theorem isD_kit {d : PyData} : (kitB (tyD d) "int" = some (isD "int" d) ∧ kitB (tyD d) "bool" = some (isD "bool" d)) ∧ (kitB (tyD d) "str" = some (isD "str" d) ∧ kitB (tyD d) "tuple" = some (isD "tuple" d)) :=
  isT_kit (tyD d) (by cases d <;> simp [tyD])
def rIsD : List V → Hp → VK → Prop := fun xs H Q => ∃ (v : V) (n : String) (d : PyData), xs = [v, .ty n] ∧ DV H v d ∧ (n = "int" ∨ n = "bool" ∨ n = "str" ∨ n = "tuple") ∧ Q (.bl (isD n d)) H
theorem call_isD {X : Cx} : CallR X (.builtin "isinstance") rIsD := by
  intro pins s σ H xs us Q I r h
  obtain ⟨v, n, d, rfl, hd, hn, q⟩ := h
  refine call_isi pins s σ H _ us Q I r ⟨v, .ty n, _, _, isD n d, rfl, .ty n, hd.ty, ?_, q⟩
  obtain ⟨⟨k1, k2⟩, k3, k4⟩ := isD_kit (d := d)
  rcases hn with rfl | rfl | rfl | rfl
  · exact kit_ty k1
  · exact kit_ty k2
  · exact kit_ty k3
  · exact kit_ty k4
/-- len of data -/
def lenD : PyData → Option Nat
  | .str x => some x.length
  | .list l => some l.length
  | .tuple l => some l.length
  | .dict l => none
  | _ => none
def rLenD : List V → Hp → VK → Prop := fun xs H Q => ∃ (v : V) (d : PyData) (n : Nat), xs = [v] ∧ DV H v d ∧ lenD d = some n ∧ Q (.int n) H
theorem call_lenD' {X : Cx} : CallR X (.builtin "len") rLenD := by
  intro pins s σ H xs us Q I r h
  obtain ⟨v, d, n, rfl, hd, hn, q⟩ := h
  cases hd with
  | non => cases hn
  | bl _ => cases hn
  | int _ => cases hn
  | dct _ => cases hn
  | @str x hl _ =>
    cases hn
    exact call_len_str pins s σ H _ us Q I r ⟨x, rfl, Nat.le_trans hl (by decide), q⟩
  | lst e t _ =>
    cases hn
    exact call_len_seq pins s σ H _ us Q I r ⟨_, _, rfl, .inl (SqL.of e), by rw [t.length]; exact q⟩
  | tup e t _ =>
    cases hn
    exact call_len_seq pins s σ H _ us Q I r ⟨_, _, rfl, .inr (SqT.of e), by rw [t.length]; exact q⟩
/-- x[i] of data, i from 0 on within it -/
def itemD : PyData → Nat → Option PyData
  | .list l, i => l[i]?
  | .tuple l, i => l[i]?
  | .str x, i => (x.cps[i]?).map fun c => .str ⟨#[c]⟩
  | _, _ => none
def rItemD : R2 := fun x y H Q => ∃ (d e : PyData) (i : Nat), DV H x d ∧ y = .int (i : Int) ∧ itemD d i = some e ∧ ∀ v, DV H v e → Q v H
theorem ix_D {X : Cx} : IxR X rItemD := by
  intro value slice pins s σ H x y v u Q I rx ry h hs
  obtain ⟨d, e, i, hd, rfl, he, q⟩ := h
  refine ix_seq value slice pins s σ H x _ v u Q I rx ry ?_ hs
  cases hd with
  | non => cases he
  | bl _ => cases he
  | int _ => cases he
  | dct _ => cases he
  | @str x hl ho =>
    cases hc : x.cps[i]? with
    | none =>
      simp only [itemD, hc, Option.map_none] at he
      cases he
    | some c =>
      simp only [itemD, hc, Option.map_some, Option.some.injEq] at he
      subst he
      have ok : c < 0x110000 := by
        have z := Array.all_eq_true.mp ho i (Array.getElem?_eq_some_iff.mp hc).1
        rw [(Array.getElem?_eq_some_iff.mp hc).2] at z
        simpa using z
      refine .inr (.inr ⟨x, _, c, rfl, rfl, Nat.le_trans hl (by decide), atI_nat (by rw [Array.getElem?_toList]; exact hc), q _ (.str (show 1 ≤ 1000 by decide) (by simp [PySem.PyData.strOk, ok]))⟩)
  | lst e2 t _ =>
    obtain ⟨w, hw, dw⟩ := t.got he
    exact .inl ⟨_, _, _, w, rfl, rfl, SqL.of e2, atI_nat hw, q w dw⟩
  | tup e2 t _ =>
    obtain ⟨w, hw, dw⟩ := t.got he
    exact .inr (.inl ⟨_, _, _, w, rfl, rfl, SqT.of e2, atI_nat hw, q w dw⟩)
/-- == and != of data without dicts, not deeper than 64 -/
def rEqDD (neg : Bool) : R2 := fun x y H Q => ∃ d e, DV H x d ∧ DV H y e ∧ d.hasDict = false ∧ e.hasDict = false ∧ d.depth ≤ 64 ∧ e.depth ≤ 64 ∧ Q (.bl (if neg then !PyData.eqv d e else PyData.eqv d e)) H
theorem shaped_D {H : Hp} {v : V} {d : PyData} (h : DV H v d) (n : d.hasDict = false) (l : d.depth ≤ 64) : SeqAt.shaped d = true := by
  unfold SeqAt.shaped
  rw [DV.canLay h n, decide_eq_true l]
  rfl
theorem op_eqDD {X : Cx} (hu : X.A.units + 64 < cLine) : OpR X (compareOp .Eq) (rEqDD false) := by
  intro pins s σ H x y v u Q I rx ry h
  obtain ⟨d, e, hd, he, nd, ne, ld, le, q⟩ := h
  exact op_eqD hu pins s σ H x y v u Q I rx ry ⟨d, e, hd.dp nd, he.dp ne, shaped_D hd nd ld, shaped_D he ne le, q⟩
theorem op_neDD {X : Cx} (hu : X.A.units + 64 < cLine) : OpR X (compareOp .NotEq) (rEqDD true) := by
  intro pins s σ H x y v u Q I rx ry h
  obtain ⟨d, e, hd, he, nd, ne, ld, le, q⟩ := h
  exact op_neD hu pins s σ H x y v u Q I rx ry ⟨d, e, hd.dp nd, he.dp ne, shaped_D hd nd ld, shaped_D he ne le, q⟩
/-- x == (), x any data -/
def isUnit : PyData → Bool
  | .tuple [] => true
  | _ => false
end WR
namespace WR
open PySem PySem.Spec PyProof.Rows L2
open PySem.SeqAt
/-! ## x == () -/
theorem dict_declines_tuple (l b : Addr) (es : Array DictEntry) (items2 : Array Value) (n n2 : Nat) (dd dd2 : Option Addr) (sl sl2 : Array (Option Value)) :
    Meets (Builtin.«dict.__eq__» ⟨[.ref l, .ref b], []⟩) (fun _ R s => s.heap.get? l = some { cls := .type "dict", dict := dd, data := .dict es n, slots := sl } ∧ s.heap.get? b = some { cls := .type "tuple", dict := dd2, data := .seq items2 n2, slots := sl2 } ∧ R (.ok (.ret .notImplemented)) s) :=
  .of_wp fun prog w A R s h => by
    obtain ⟨hp, g, d, tk, os⟩ := s
    obtain ⟨hl, hb, h⟩ := h
    have f1 := PySem.F.sub_tuple_dict
    wp_walk using AutoSeq1.wpAny_loadPart' hl, AutoSeq1.wpAny_loadPart' hb
    exact ⟨_, rfl, h⟩
theorem tuple_declines_dict (l b : Addr) (es : Array DictEntry) (items2 : Array Value) (n n2 : Nat) (dd dd2 : Option Addr) (sl sl2 : Array (Option Value)) :
    Meets (Builtin.«tuple.__eq__» ⟨[.ref b, .ref l], []⟩) (fun _ R s => s.heap.get? b = some { cls := .type "tuple", dict := dd2, data := .seq items2 n2, slots := sl2 } ∧ s.heap.get? l = some { cls := .type "dict", dict := dd, data := .dict es n, slots := sl } ∧ R (.ok (.ret .notImplemented)) s) :=
  .of_wp fun prog w A R s h => by
    obtain ⟨hp, g, d, tk, os⟩ := s
    obtain ⟨hb, hl, h⟩ := h
    have f1 : isSubtype (.type "dict") (.type "tuple") = pure false := by rw [isSubtype_type]; kernel_rfl
    wp_walk using AutoSeq1.wpAny_loadPart' hl, AutoSeq1.wpAny_loadPart' hb
    exact ⟨_, rfl, h⟩
theorem rc_dict_tuple {A : Around} {s : Shared} {l b : Addr} {es : Array DictEntry} {n : Nat} {dd : Option Addr} {sl : Array (Option Value)} {items2 : Array Value}
    (hl : s.heap.get? l = some { cls := .type "dict", dict := dd, data := .dict es n, slots := sl }) (hb : s.heap.IsTuple b items2) (hu : A.units < cLine) : RcAt A s (.ref l) (.ref b) false := fun prog w E Q h => by
  obtain ⟨⟨c2, dd2, data2, sl2⟩, ho2, hc2, n2, hd2⟩ := id hb
  simp only at hc2 hd2
  subst hc2 hd2
  have hne : l ≠ b := fun z => by
    rw [z, ho2] at hl
    have q : Value.type "tuple" = Value.type "dict" := congrArg Obj.cls (Option.some.inj hl)
    exact absurd q (by simp)
  have sub1 : isSubtype (.type "tuple") (.type "dict") = pure false := PySem.F.sub_tuple_dict
  exact (rc_eq_decline_or (k := false) ⟨_, hl, rfl⟩ ⟨_, ho2, rfl⟩ (by decide) sub1 PySem.F.slot_dict_eq F.slot_tuple_eq_refl
    (fun _ hq => call_meets PySem.F.slot_dict_eq ⟨_, hl, rfl⟩ PySem.F.entry_dict_eq (PySem.F.args_dict_eq_2 _ _) (dict_declines_tuple l b es items2 n n2 dd dd2 sl sl2) ⟨hl, ho2, hq⟩)
    (fun _ hq => call_meets F.slot_tuple_eq_refl ⟨_, ho2, rfl⟩ F.entry_tuple_eq (F.args_tuple_eq_2 _ _) (tuple_declines_dict l b es items2 n n2 dd dd2 sl sl2) ⟨ho2, hl, hq⟩)
    (fun _ hq => wpAny_isSame_ref_other hne hl ho2 (by simp) hq) (.inr hu) h)
/-- x == (), x any data -/
def rEqU : R2 := fun x y H Q => ∃ (d : PyData) (p : Addr), DV H x d ∧ y = .ref p ∧ H p = some (.tup []) ∧ Q (.bl (isUnit d)) H
theorem op_eqU {X : Cx} (hu : X.A.units < cLine) : OpR X (compareOp .Eq) rEqU := by
  intro pins s σ H x y v u Q I rx ry h
  obtain ⟨d, p, hd, rfl, hp, q⟩ := h
  cases (show u = Value.ref p from ry)
  obtain ⟨its, rv, pt, _⟩ := I.tuple (SqT.of hp)
  cases rv
  have go : ∀ {k : Bool}, RcAt X.A s v (.ref p) k → EP X pins σ Q (.bool k) s → wpAny (model X.prog X.w) X.A (compareOp .Eq v (.ref p)) (EP X pins σ Q) X.xe s := fun {k} r z => r X.prog X.w X.xe _ z
  have out : ∀ {k : Bool}, isUnit d = k → EP X pins σ Q (.bool k) s := fun {k} e => ⟨.bl k, H, I, rfl, by rw [← e]; exact q⟩
  cases hd with
  | non =>
    cases (show v = Value.none from rx)
    exact go (.none_tuple pt hu) (out rfl)
  | bl b =>
    cases (show v = Value.bool b from rx)
    exact go (.bool_tuple b pt hu) (out rfl)
  | int i =>
    obtain ⟨t, rfl⟩ := (show ∃ t, v = Value.int i t from rx)
    exact go (.int_tuple i t pt hu) (out rfl)
  | @str z _ _ =>
    obtain ⟨t, rfl⟩ := (show ∃ t, v = Value.str z t from rx)
    exact go (.str_tuple z t pt hu) (out rfl)
  | @lst a xs ds e _ _ =>
    cases (show v = Value.ref a from rx)
    obtain ⟨its2, _, ⟨o, n, ho, hc, _, hdat⟩, _⟩ := I.list (SqL.of e)
    exact go (.list_tuple ⟨o, ho, hc, n, hdat⟩ pt hu) (out rfl)
  | @tup a xs ds e t _ =>
    cases (show v = Value.ref a from rx)
    obtain ⟨its2, rv2, pt2, _⟩ := I.tuple (SqT.of e)
    have r := RcAt.tuples (e := fun _ => true) pt2 pt hu (fun j _ h2 => absurd h2 (by simp))
    have el : its2.toArray.size = ds.length := by
      have l1 := rv2.length
      have l2 := t.length
      simp only [List.size_toArray]
      omega
    refine go r ?_
    have ek : ((List.range (min its2.toArray.size ([] : List Value).toArray.size)).all (fun _ => true) && its2.toArray.size == ([] : List Value).toArray.size) = isUnit (.tuple ds) := by
      rw [el]
      cases ds with
      | nil => rfl
      | cons _ _ => simp [isUnit]
    rw [ek]
    exact out rfl
  | @dct a e =>
    cases (show v = Value.ref a from rx)
    obtain ⟨_, _, vs, _, o, es, ep, ho, hx, hdat, _⟩ := (show ObjOk X.prog X.w H s.heap a (.dK []) from I.hok a _ e)
    obtain ⟨oc, od, odt, osl⟩ := o
    obtain ⟨hc, _⟩ := hx
    simp only at hc hdat
    subst hc hdat
    exact go (rc_dict_tuple ho pt hu) (out rfl)
end WR
namespace WR
open PySem PySem.Spec PyProof.Rows L2
/-! ## Calls of defs -/
abbrev FnP (K : PySem.W.Frag) (x : Str) (st : Stmt) (f : Addr) (fd : FuncData) : Prop := FunD K x x (defArgs st) (defBody st) (defScope st) [] [] f fd
/-- the name x holds a def that keeps sp -/
def Cal (P : Program) (w : World) (K : PySem.W.Frag) (mg : Str → Option Value) (base : Heap) (x : Str) (k : Nat) (ps : List Str) (sp : Sp) : Prop :=
  ∃ (f : Addr) (fd : FuncData), FnOk P w K mg base (L2.CX P w) k f fd ps sp ∧ mg x = some (.ref f) ∧ PySem.W.keepIn K (.ref f) = true ∧ Binds K fd ps []
section
variable {X : Cx} {x : Str} {k : Nat} {ps : List Str} {sp : Sp} {p pos : Pos} {e : Expr} {es : List Expr} {t : TA}
theorem pe_F (C : Cal X.prog X.w X.K X.mg X.base x k ps sp) (hr : Room k X.A) (ha : PA X (e :: es) t) (hg : Gl X x := by rfl)
    (hdb : (x == ("__debug__" : Str)) = false := by decide) (he : starEach (e :: es) X.env = (false, eval e X.env) :: starEach es X.env := by rfl) (hpl : (backTo pos (starEach es X.env)).any (·.1) = false := by rfl) :
    PE X (.Call (.Name x p) (e :: es) [] pos) (tCall sp [] E0 t) := by
  obtain ⟨f, fd, F, hm, hk, hb⟩ := C
  exact pe_call F hr hg hm hk hb .nil passL ha hdb he hpl
theorem pe_F0 (C : Cal X.prog X.w X.K X.mg X.base x k ps sp) (hr : Room k X.A) (hg : Gl X x := by rfl) (hdb : (x == ("__debug__" : Str)) = false := by decide) :
    PE X (.Call (.Name x p) [] [] pos) (tCall sp [] E0 tNil) := by
  obtain ⟨f, fd, F, hm, hk, hb⟩ := C
  exact pe_call0 F hr hg hm hk hb .nil passL hdb
/-- a call that may raise: W is what is wished of an exception here -/
theorem pe_X {W : WX} (C : Cal X.prog X.w X.K X.mg X.base x k ps sp) (hr : Room k X.A) (tk : Takes X W) (ha : PA X (e :: es) t) (hg : Gl X x := by rfl)
    (hdb : (x == ("__debug__" : Str)) = false := by decide) (he : starEach (e :: es) X.env = (false, eval e X.env) :: starEach es X.env := by rfl) (hpl : (backTo pos (starEach es X.env)).any (·.1) = false := by rfl) :
    PE X (.Call (.Name x p) (e :: es) [] pos) (tCallS sp (WE W) t) := by
  obtain ⟨f, fd, F, hm, hk, hb⟩ := C
  exact pe_callS F hr hg hm hk hb (fun σ => passAt tk σ) ha hdb he hpl
end
/-- the names of built-ins that the text leaves alone -/
def frees : List Str := ["isinstance", "int", "bool", "str", "tuple", "list", "dict", "len", "range", "enumerate", "zip", "max", "min", "sorted", "all", "any", "abs", "repr", "sum", "set"]
def Free (mg : Str → Option Value) : Prop := ∀ x ∈ frees, mg x = none
/-- a built-in class as a value -/
theorem pe_ty {X : Cx} {x : Str} {n : String} {pos : Pos} (fr : Free X.mg) (hx : x ∈ frees := by decide) (hv : bootBuiltins x = some (.type n) := by decide +kernel) (hg : Gl X x := by rfl) (hn : x ≠ "__name__" := by decide) (hdb : (x == ("__debug__" : Str)) = false := by decide) :
    PE X (.Name x pos) (tC (.ty n)) := pe_bltn (v := .ty n) (u := .type n) hg (fr x hx) hv rfl hn hdb
end WR
namespace WR
open PySem PySem.Spec PyProof.Rows L2
/-! ## An own exception class whose __init__ is a def: what the head must say of it -/
def oexB (K : PySem.W.Frag) (C : Addr) : Bool := (match K.lookup C with
  | some ⟨.type "type", _, .cls cd, sl⟩ => (match cd.mro, sl.toList with
    | .ref D :: bm, [_, _, _, _, some (.builtin n), _] => D == C && (n == "ValueError.__new__" && (cd.hasDict && (!cd.hasDel && PySem.HandSPX.refsVE bm)))
    | _, _ => false)
  | _ => false) && (decide (PySem.W.findIn K (.ref C) "__setattr__" = some (some (.builtin "object.__setattr__"))) && (decide (PySem.W.subIn K (.ref C) (.type "BaseException") = some true) &&
    (decide (PySem.W.typeIn K (.ref C) = some (.type "type")) && PySem.W.keepIn K (.ref C))))
theorem oexB_ok {K : PySem.W.Frag} {C : Addr} (h : oexB K C = true) : OexC K C := by
  unfold oexB at h
  simp only [Bool.and_eq_true, decide_eq_true_eq] at h
  obtain ⟨h1, h2, h3, h4, h5⟩ := h
  refine ⟨?_, h2, h3, h4, h5⟩
  split at h1
  · rename_i dd cd sl ho
    split at h1
    · rename_i D bm k0 k1 k2 k3 n k5 hm hs
      simp only [Bool.and_eq_true, beq_iff_eq, Bool.not_eq_true'] at h1
      obtain ⟨e1, e2, hd, hdel, hv⟩ := h1
      subst e1 e2
      obtain ⟨nm, bs, mro, ns, qn, hdi, sn, sub, ab, col, del⟩ := cd
      dsimp only at hm hd hdel
      subst hm hd hdel
      have hsl : sl = #[k0, k1, k2, k3, some (.builtin "ValueError.__new__"), k5] := by
        obtain ⟨l⟩ := sl
        simp only at hs
        rw [hs]
      subst hsl
      exact ⟨nm, qn, ns, bs, bm, sn, sub, ab, col, dd, k0, k1, k2, k3, k5, ho, hv⟩
    · cases h1
  · cases h1
/-- __init__ of a class with the one field f -/
def spInit (f : Str) (C : Addr) : Sp := fun vs H Q _ => ∃ a v, vs = [V.ref a, v] ∧ H a = some (exo a C none) ∧ ∀ dx, H dx = none → dx ≠ a → Q .non (upd (upd H dx (exd dx [(f, v)])) a (exo a C (some dx)))
/-- what is told of a class x with one field, by its __init__ -/
structure ExcF (P : Program) (w : World) (K : PySem.W.Frag) (mg : Str → Option Value) (base : Heap) (x f : Str) (C : Addr) : Prop where
  nm : mg x = some (.ref C)
  oex : OexC K C
  isi : ExcI K C
  nof : PySem.W.findIn K (.ref C) f = some none
  ini : ∃ (fI : Addr) (fd : FuncData), PySem.W.findIn K (.ref C) "__init__" = some (some (.ref fI)) ∧ PySem.W.typeIn K (.ref fI) = some (.type "function") ∧
    FnOk P w K mg base (L2.CX P w) 1 fI fd ["self", f] (spInit f C) ∧ Binds K fd ["self", f] []
theorem pmk_1 {X : Cx} {x f : Str} {C : Addr} {e : Expr} {te : TE} {p pos : Pos} (F : ExcF X.prog X.w X.K X.mg X.base x f C) (hr : Room 2 X.A) (he0 : PE X e te) (hg : Gl X x := by rfl)
    (hdb : (x == ("__debug__" : Str)) = false := by decide) (he : starEach (e :: []) X.env = (false, eval e X.env) :: starEach [] X.env := by rfl) (hpl : (backTo pos (starEach [] X.env)).any (·.1) = false := by rfl) :
    PMk X (.Call (.Name x p) [e] [] pos) (tMkO C (spInit f C) [] (tCons te tNil)) := by
  obtain ⟨fI, fd, iC, tI, FI, hb⟩ := F.ini
  exact pmk_oex (X := X) F.oex iC tI FI hr hb .nil passL hg F.nm (pa_cons he0 pa_nil (hs := he)) hdb he hpl
/-- what the making of x(v) asks behind v -/
theorem made1 {f : Str} {C : Addr} {v : V} {H1 : Hp} {Q : XK} (h : ∀ d, H1 d = none → Q (.ref C) (some d) (upd H1 d (.xd [(f, v)]))) :
    ([v] : List V).length ≤ 1000 ∧ ∀ a, H1 a = none → spInit f C (V.ref a :: ([v] ++ [])) (upd H1 a (exo a C none))
      (fun u H2 => u = .non ∧ ∃ (d : Addr) (fs : List (Str × V)), H2 a = some (exo a C (some d)) ∧ H2 d = some (exd d fs) ∧ H1 d = none ∧ Q (.ref C) (some d) (upd (del H2 a) d (.xd fs))) (fun _ _ _ => False) := by
  refine ⟨by show 1 ≤ 1000; decide, fun a na => ⟨a, v, rfl, upd_same, fun dx ndx hne => ⟨rfl, dx, [(f, v)], upd_same, ?_, ?_, ?_⟩⟩⟩
  · rw [upd_ne hne]; exact upd_same
  · rw [upd_ne hne] at ndx; exact ndx
  · rw [upd_ne hne] at ndx
    have e : upd (del (upd (upd (upd H1 a (exo a C none)) dx (exd dx [(f, v)])) a (exo a C (some dx))) a) dx (.xd [(f, v)]) = upd H1 dx (.xd [(f, v)]) := by
      funext b
      by_cases hb : b = dx
      · rw [hb, upd_same, upd_same]
      · rw [upd_ne hb, upd_ne hb]
        by_cases ha : b = a
        · rw [ha, del_same, na]
        · rw [del_ne ha, upd_ne ha, upd_ne hb, upd_ne ha]
    rw [e]
    exact h dx ndx
/-- __init__(self, f): self.f = f -/
theorem ok_init {P : Program} {w : World} {K : PySem.W.Frag} {mg : Str → Option Value} {base : Heap} {q f : Str} {C fI : Addr} {fd : FuncData} {prm : Arguments} {sc : Scope} {dvs : List V} {p1 p2 p3 p4 : Pos}
    (F : FunD K "__init__" q prm [.Assign [.Attribute (.Name "self" p1) f p2] (.Name f p3) p4] sc dvs [] fI fd) (S : FnScope ["self", f] ["self", f] sc) (O : OexC K C) (nof : PySem.W.findIn K (.ref C) f = some none)
    (v1 : sc.names.lookup ("self" : Str) = some NameKind.local) (v2 : sc.names.lookup f = some NameKind.local) (d2 : (f == ("__debug__" : Str)) = false) (d3 : (f == ("__classdict__" : Str)) = false) :
    FnOk P w K mg base (L2.CX P w) 1 fI fd ["self", f] (spInit f C) := by
  refine F.ok S (fun vs H Q E h => ?_) (fun cdv A outer s H vs Q E hr h => ⟨_, PSs.nox (pss_one (ps_ost (pe_var (i := 0) rfl (Or.inl v1)) (pe_var (i := 1) rfl (Or.inl v2) d2 d3))), ?_⟩)
  · obtain ⟨a, v, rfl, _⟩ := h; rfl
  · obtain ⟨a, v, rfl, ha, k⟩ := h
    exact ⟨v, rfl, .ref a, rfl, a, C, rfl, O, nof, .inl ⟨ha, fun dx n1 n2 => k dx n1 n2⟩⟩
end WR
namespace WR
open PySem PySem.Spec PyProof.Rows L2
/-! ## enumerate(tuple) -/
theorem meets_enumT {v : Value} {o : Obj} {G : Heap → Prop} (B : Begins v o G) :
    Meets (Builtin.«enumerate.__new__» ⟨[.type "enumerate", v], []⟩) (fun _ R s => G s.heap ∧
      R (.ok (.ret (.ref (s.heap.push o).objs.size))) { s with heap := (s.heap.push o).push { cls := .type "enumerate", data := .fields #[.none, .bool false, .ref s.heap.objs.size, rawInt 0, .none, .none] } }) :=
  .of_wp fun prog w A R s h => by
    obtain ⟨hp, g, d, tk, os⟩ := s
    obtain ⟨hG, h⟩ := h
    have hsub := sub_enumerate
    have first : ∀ {A2 : Around} {E : Value → Shared → Prop} {Q : Value → Shared → Prop}, Q (.ref hp.objs.size) ⟨hp.push o, g, d, tk, os⟩ → wpAny (model prog w) A2 (pyIter v) Q E ⟨hp, g, d, tk, os⟩ :=
      fun q => B.iter prog w _ _ ⟨hp, g, d, tk, os⟩ _ hG q
    wp_walk
    refine wpAny_stack_any fun st => wpAny_pure ?_
    split
    · rename_i c _ _ _ _ _
      cases (c == Value.type "enumerate")
      · wp_walk using first
        exact ⟨_, rfl, h⟩
      · wp_walk using first
        exact ⟨_, rfl, h⟩
    · wp_walk using first
      exact ⟨_, rfl, h⟩
theorem call_enumT {prog : Program} {w : World} {A : Around} {E : Value → Shared → Prop} {s : Shared} {v : Value} {o : Obj} {G : Heap → Prop} {Q : Value → Shared → Prop} (B : Begins v o G) (hG : G s.heap)
    (h : ∀ h', IsEnum h' (s.heap.objs.size + 1) s.heap.objs.size 0 .none → h'.get? s.heap.objs.size = some o → (∀ b u, s.heap.get? b = some u → h'.get? b = some u) → Q (.ref (s.heap.objs.size + 1)) { s with heap := h' }) :
    wpAny (model prog w) A (call (.type "enumerate") [v]) Q E s := by
  refine callType_new F.called_enumerate (by decide) (F.typeCall_enumerate_1 _) (F.newCall_enumerate_1 _) (fun obj => F.args_object_init_2 obj _) F.entry_enumerate_new (meets_enumT B) ⟨hG, ?_⟩
  have sz : (s.heap.push o).objs.size = s.heap.objs.size + 1 := Heap.size_push ..
  show _ ∧ _
  rw [sz]
  have atE : IsEnum ((s.heap.push o).push { cls := .type "enumerate", data := .fields #[.none, .bool false, .ref s.heap.objs.size, rawInt 0, .none, .none] }) (s.heap.objs.size + 1) s.heap.objs.size 0 .none := by
    rw [← sz]
    exact Heap.get?_push_size _ rfl
  exact ⟨⟨_, atE, rfl⟩, h _ atE (Heap.get?_push_of_some _ (Heap.get?_push_size _ B.free)) fun b u q => Heap.get?_push_of_some _ (Heap.get?_push_of_some _ q)⟩
/-- the tuple at a as it stands, each item in a new pair -/
def IteT (K : PySem.W.Frag) (a : Addr) : It :=
  ⟨fun i H => ∃ (xs : List V) (x : V), SqT K H a xs ∧ xs[i]? = some x, fun i H v H' => ∃ T x, v = .ref T ∧ H T = none ∧ H' = upd H T (.tup [.int (i : Nat), x]) ∧ ∀ xs, SqT K H a xs → xs[i]? = some x, fun i H => ∃ xs : List V, SqT K H a xs ∧ xs.length = i⟩
theorem turn_enumT {P : Program} {w : World} {K : PySem.W.Frag} {elts : List Expr} {kk : Nat} {tpos : Pos} (a e it : Addr) :
    Turn P w K (.Tuple elts kk tpos) (IteT K a) [e, it] e (fun i h => (∃ old, IsEnum h e it ((i : Nat) : Int) old) ∧ h.IsTupleIter it a i ∧ e ≠ it ∧ a ≠ it ∧ a ≠ e) where
  mem := by simp
  obj := fun i h st b hb => by
    obtain ⟨⟨old, he⟩, ⟨o, ho, hc, hd⟩, _⟩ := st
    rcases (show b = e ∨ b = it by simpa using hb) with z | z
    · rw [z]; exact ⟨_, he, fun v q => nomatch q⟩
    · rw [z]; exact ⟨o, ho, fun v q => by rw [hd] at q; cases q⟩
  keep := fun i h h' st k => by
    obtain ⟨⟨old, he⟩, hi, n1, n2, n3⟩ := st
    exact ⟨⟨old, k e (by simp) _ he⟩, hi.at fun o q => k it (by simp) o q, n1, n2, n3⟩
  item := by
    intro X hP hw hK hc i pins s σ H E I hf st hg
    subst hP hw hK
    obtain ⟨⟨old, he⟩, hit, n1, n2, n3⟩ := st
    obtain ⟨xs, x, hq, hx⟩ := hg
    obtain ⟨its, rv, p, hz⟩ := I.tuple hq
    obtain ⟨u, hu, ru⟩ := rv.get hx
    have hlt : i < its.toArray.size := by
      have q := (List.getElem?_eq_some_iff.mp hu).1
      simpa using q
    have hel : e < s.heap.objs.size := Heap.lt_size he
    have hil : it < s.heap.objs.size := by obtain ⟨_, q, _⟩ := hit; exact Heap.lt_size q
    have DR := Draws.tuple (prog := X.prog) (w := X.w) (A := X.A.in1) (I.ok.hd hc) it a n2 its.toArray
    refine wpAny_pyNext_enum_itemD DR he ⟨hit, p⟩ hlt n1 (by simp [n1, Ne.symm n3]) fun y h' tk hy ho hst hT hsz hk => ?_
    have ey : y = u := by
      have q1 : its.toArray[i]? = some y := hy
      have q2 : its.toArray[i]? = some u := by simpa using hu
      rw [q2] at q1
      exact (Option.some.inj q1).symm
    subst ey
    refine ⟨_, rfl, wpAny_letOwnedTupleGo_enum (s := { s with heap := h', toks := tk + 1 }) ho fun h'' he' sb => ?_⟩
    have hT2 : h''.get? s.heap.objs.size = some { cls := .type "tuple", data := .seq #[.int i tk, y] } := (sb.2 _ (Nat.ne_of_gt hel)).trans hT
    have new : ObjOk X.prog X.w (upd H s.heap.objs.size (.tup [.int (i : Nat), x])) h'' s.heap.objs.size (.tup [.int (i : Nat), x]) :=
      ⟨by show 2 ≤ sizeLine; decide, [.int i tk, y], .cons ⟨_, rfl⟩ (.cons ru .nil), ⟨_, hT2, rfl, _, rfl⟩⟩
    have J : Inv X pins σ (upd H s.heap.objs.size (.tup [.int (i : Nat), x])) { s with heap := h'', toks := tk + 1 } :=
      I.turnedNew (ch := [e, it]) (fun b ob hb q => by
        have be : b ≠ e := fun z => hb (by simp [z])
        have bi : b ≠ it := fun z => hb (by simp [z])
        exact (sb.2 b be).trans (hk b ob be bi q)) hf (Nat.le_refl _) new
    refine ⟨.ref s.heap.objs.size, _, J, rfl, ⟨_, x, rfl, I.hok.fresh (Nat.le_refl _), rfl, fun ys hy2 => ?_⟩, ⟨⟨y, ?_⟩, hst.1.at fun o q => (sb.2 it (Ne.symm n1)).trans q, n1, n2, n3⟩, fun b hb => ?_⟩
    · rw [I.tuple_inj hy2 hq]; exact hx
    · have e1 : ((i + 1 : Nat) : Int) = (i : Int) + 1 := by omega
      rw [e1]; exact he'
    · have hb' : b < s.heap.objs.size := by
        rcases (show b = e ∨ b = it by simpa using hb) with z | z
        · rw [z]; exact hel
        · rw [z]; exact hil
      rw [upd_ne (Nat.ne_of_lt hb')]
      exact (hf b hb).1
  done := by
    intro X hP hw hK hc i pins s σ H E I hf st hg
    subst hP hw hK
    obtain ⟨⟨old, he⟩, hit, n1, n2, n3⟩ := st
    obtain ⟨xs, hq, hx⟩ := hg
    obtain ⟨its, rv, p, hz⟩ := I.tuple hq
    have DR := Draws.tuple (prog := X.prog) (w := X.w) (A := X.A.in1) (I.ok.hd hc) it a n2 its.toArray
    have ei : i = its.toArray.size := by
      have q := rv.length
      rw [hx] at q
      simpa using q
    obtain ⟨f0, f1, f2, f3, f4, f5⟩ := hf it (by simp)
    exact wpAny_pyNext_enum_endD DR he (by rw [← ei]; exact ⟨hit, p⟩) fun h' eb => ⟨rfl, I.turned (t' := s.toks) (fun b o hb q => eb b o hb q) f0 f1 f3 f4 f5⟩
  self := fun A i s Q E st h => by
    obtain ⟨⟨_, he⟩, _⟩ := st
    exact wpAny_pyIter_enum he h
def iEnumT (K : PySem.W.Frag) (ta : TA) : TI := fun σ H R => ta σ H fun vs H1 => ∃ a xs, vs = [.ref a] ∧ SqT K H1 a xs ∧ R (IteT K a) H1
theorem pi_enumT {X : Cx} {e : Expr} {ta : TA} {p pos tpos : Pos} {elts : List Expr} {kk : Nat} (hg : Gl X "enumerate") (hm : X.mg "enumerate" = none) (ha : PA X [e] ta) (hs : starEach [e] X.env = [(false, eval e X.env)] := by rfl) :
    PI X (.Tuple elts kk tpos) (.Call (.Name "enumerate" p) [e] [] pos) (iEnumT X.K ta) := by
  constructor
  intro pins s σ H R I h
  refine Call_ (ld_blt I hg hm boot_enumerate (PyProof.Rows.callWith_type1 (thn (ha.run pos pins s σ H _ I h) fun us s1 z => ?_) hs rfl))
  obtain ⟨vs, H1, J, r1, a, xs, ex, hq, q⟩ := z
  subst ex
  cases r1 with
  | cons r rr =>
    cases rr
    cases r
    obtain ⟨its, rv, p', hz⟩ := J.tuple hq
    refine call_enumT (begins_tuple a its.toArray) p' fun h' he hget hk => wpAny_pyIter_enum he ?_
    have J2 : Inv X pins σ H1 { s1 with heap := h' } := J.kept (t' := s1.toks) hk
    have la : a < s1.heap.objs.size := p'.lt
    refine ⟨s1.heap.objs.size + 1, [s1.heap.objs.size + 1, s1.heap.objs.size], _, _, H1, rfl, J2, turn_enumT a (s1.heap.objs.size + 1) s1.heap.objs.size,
      ⟨⟨.none, he⟩, ⟨_, hget, rfl, rfl⟩, Nat.succ_ne_self _, Nat.ne_of_lt la, Nat.ne_of_lt (Nat.lt_succ_of_lt la)⟩, fun b hb => ?_, q⟩
    have hle : s1.heap.objs.size ≤ b := by
      rcases (show b = s1.heap.objs.size + 1 ∨ b = s1.heap.objs.size by simpa using hb) with z | z
      · rw [z]; exact Nat.le_succ _
      · rw [z]; exact Nat.le_refl _
    exact J.fpOk hle (J.hok.fresh hle)
theorem walk_enumT {K : PySem.W.Frag} {a : Addr} {xs : List V} : Walk (IteT K a) xs.length (fun H => SqT K H a xs) (YPair (fun i => some (.int (i : Nat))) (fun i => xs[i]?)) := by
  refine ⟨fun i H hi q => ⟨xs, xs[i], q, by simp [hi]⟩, fun H q => ⟨xs, q, rfl⟩, fun i H v H' hi q y => ?_⟩
  obtain ⟨T, x, h1, h2, h3, h4⟩ := y
  exact ⟨T, .int (i : Nat), x, h1, h2, h3, rfl, h4 xs q⟩
end WR
namespace WR
open PySem PySem.Spec PyProof.Rows L2
open GxR (TabB TabG Tabbed GenS)
/-! ## all(.. for sign in text), the element may ask the module's names -/
def EltG (X : Cx) (scope : Scope) (x : Str) (elt : Expr) (pb : Nat → Bool) : Prop :=
  ∀ (ce : Env) (A2 : Around) (E2 : Value → Shared → Prop) (c : Nat) (t : Tok) (r : Shared) (m : Str → Option Value), ce.scope = scope → ce.globals = mainGlobals → (∀ b o, X.base.get? b = some o → r.heap.get? b = some o) →
    r.heap.Ns ce.locals m → m x = some (.str ⟨#[c]⟩ t) → wpAny (model X.prog X.w) A2 (eval elt ce) (fun y r3 => y = .bool (pb c) ∧ Keeps r r3) E2 r
/-- x in G, G a text of the module -/
theorem elt_inG {X : Cx} {scope : Scope} {x g z : Str} {tz : Tok} {p1 p2 p3 : Pos} (hk : scope.kind = .function) (hl : scope.names.lookup x = some .local) (hg : scope.names.lookup g = some .globalImplicit) (hmod : X.base.Ns mainGlobals X.mg) (hz : X.mg g = some (.str z tz))
    (hd : (x == ("__debug__" : Str)) = false := by decide) (hd2 : (g == ("__debug__" : Str)) = false := by decide) : EltG X scope x (.Compare (.Name x p1) [.In] [.Name g p2] p3) (fun c => decide (c ∈ z.cps.toList)) := by
  intro ce A2 E2 c t r m hs hgl hb hn hm
  refine wpAny_Compare1 ?_
  refine wpAny_Name (wpAny_loadName_local (by rw [hs]; exact hk) (show ce.scope.names.lookup x = some .local by rw [hs]; exact hl) hn hm ?_) hd
  refine Calls.Name_function_global (by rw [hs]; exact hk) (show ce.scope.names.lookup g = some .globalImplicit by rw [hs]; exact hg) (Calls.loadGlobal_global (mg := X.mg) (by rw [hgl]; exact hmod.keeps hb) hz ?_) hd2
  refine PyProof.Rows.in_str ⟨?_, GxR.keeps_refl _⟩
  rw [PySem.StrLaws.found_one z c]
section
variable {X : Cx} {pins : List (Addr × Obj)} {σ : L2.St} {H : Hp} {s : Shared}
/-- the generator made, ready to be walked -/
theorem gen_made {c T : Addr} {elt iter : Expr} {x : Str} {px gpos : Pos} {scope : Scope} {pb : Nat → Bool} {te : TE} {k : Nat} {Qg : Value → Shared → Prop} {R : Str → Hp → Prop}
    (hr : Room k X.A) (TB : TabB X.base X.mg c T) (hcode : X.env.code = .ref c) (S : GenS X.env scope x) (hi : PE X iter te) (hel : EltG X scope x elt pb)
    (hs : ∀ v, genFold iter X.env v = pure v) (I : Inv X pins σ H s) (h : te σ H fun v H1 => ∃ a : Str, v = .str a ∧ TabG H1 T ∧ R a H1)
    (hQ : ∀ a H1 g s5, R a H1 → GxR.Ready X pins σ H1 T a pb g s5 → Qg (.ref g) s5) :
    wpAny (model X.prog X.w) X.A (eval (.GeneratorExp elt [⟨.Name x px, iter, [], 0⟩] scope gpos) X.env) Qg X.xe s := by
  refine wpAny_GeneratorExp_walksQ hr.hd S.co (closure_ok S.free) S.cell S.dot S.loc S.kind (Nat.lt_of_le_of_lt (by omega) hr.dp) ?_ hs
  refine thn (hi.run pins s σ H _ I h) fun xv s1 z => ?_
  obtain ⟨v, H1, J, rv, a, rfl, ⟨ps, hT, tri⟩, hR⟩ := z
  obtain ⟨t, rfl⟩ := _root_.id (show ∃ t, xv = Value.str a t from rv)
  refine wpAny_pyIter_str fun io St W st0 => ?_
  have atT : s1.heap.get? T = some { cls := .none, data := .fields ps } := J.hok T _ hT
  have ltT : T < s1.heap.objs.size := Heap.lt_size atT
  have atT2 : (s1.heap.push io).get? T = some { cls := .none, data := .fields ps } := Heap.get?_push_of_some _ atT
  have hd2 : PySem.W.CodeHd (s1.heap.push io) c T := TB.code.keeps fun b u e => Heap.get?_push_of_some _ (J.bk b u e)
  have lim : (s1.heap.push io).NoLimit := J.nolimit.push io
  have baseT : ∀ b u, X.base.get? b = some u → b ≠ T := fun b u e q => by
    have n := (J.bs b u e).2
    rw [q, hT] at n
    cases n
  have bnd := TB.bm
  obtain ⟨bm, ob, y1, y2, y3, y4, y5, y6, y7, y8⟩ := bnd
  have statT : cStatics ≠ T := fun q => by
    obtain ⟨_, hns, _⟩ := J.nolimit
    obtain ⟨o2, es, ep, ho, hdat, _⟩ := hns
    rw [q, atT] at ho
    cases ho
    cases hdat
  have statL : cStatics < s1.heap.objs.size := by
    obtain ⟨_, hns, _⟩ := J.nolimit
    exact hns.lt
  -- behind the code object, wherever it comes from
  have rest : ∀ (cv : Value) (h3 : Heap) (tk : Nat) (ps2 more : Array Value), Heap.ExtBut T (s1.heap.push io) h3 → (s1.heap.push io).objs.size ≤ h3.objs.size → h3.get? T = some { cls := .none, data := .fields ps2 } → ps2 = ps ++ more → TriplesOk ps2.toList →
      wpAny (model X.prog X.w) X.A (builtinsFor X.env.globals X.env.builtins) (fun bi s4 =>
        ∃ Ia fp wr n0 Pf St0 pz F, Value.ref s1.heap.objs.size = .ref Ia ∧ (∀ A2 : Around, A2.handled = none → Walks X.prog X.w A2 Ia fp wr n0 Pf St0) ∧ St0 0 s4.heap ∧ (∀ b ∈ fp, b < s4.heap.objs.size) ∧ s4.heap.NoLimit ∧ cStatics ∉ wr ∧
          (∀ href : Heap, (∀ b o, s4.heap.get? b = some o → href.get? b = some o) → QuietGen X.prog X.w (genEnv scope (cloFrom X.env.cells scope.names []) s4.heap.objs.size cv bi X.env) x [] elt (List.range s4.heap.objs.size) wr Pf pz F href) ∧
          (∀ g h5 tk5 gs, gs.bare = true → s4.heap.objs.size < g → h5.objs.size = g + 1 → (∀ b o, s4.heap.get? b = some o → h5.get? b = some o) →
            WalksS X.prog X.w X.A.in4 g (g :: s4.heap.objs.size :: List.range s4.heap.objs.size) (s4.heap.objs.size :: wr) (GenOnlyQ s4.gens.size) (passing pz n0 0).length
              (fun j y => ∃ i, (passing pz n0 0)[j]? = some i ∧ F i y) (GenAt X.prog X.w X.A.in4 g s4.gens.size s4.heap.objs.size (List.range s4.heap.objs.size) wr pz n0 F) →
            GenAt X.prog X.w X.A.in4 g s4.gens.size s4.heap.objs.size (List.range s4.heap.objs.size) wr pz n0 F 0 { s4 with gens := s4.gens.push gs, toks := tk5, heap := h5 } →
            Qg (.ref g) { s4 with gens := s4.gens.push gs, toks := tk5, heap := h5 })) X.xe { s1 with heap := h3, toks := tk } := by
    intro cv h3 tk ps2 more hx hsz hT3 hmore tri3
    have kept : ∀ b u, b ≠ T → s1.heap.get? b = some u → h3.get? b = some u := fun b u hb e => hx b u hb (Heap.get?_push_of_some _ e)
    have szp : (s1.heap.push io).objs.size = s1.heap.objs.size + 1 := Heap.size_push ..
    have lt3 : s1.heap.objs.size < h3.objs.size := by rw [szp] at hsz; exact hsz
    have one : ∀ b, b ∈ [s1.heap.objs.size] → b = s1.heap.objs.size := fun b hb => List.mem_singleton.mp hb
    refine wpAny_builtinsFor (m := X.mg) (by rw [J.ok.glob]; exact ((J.mod.glob.keeps J.bk).push io).extBut hx TB.gP) y1 y2 (kept _ _ y4 (J.bk _ _ y5)) y6 y7 y8 ?_
    refine ⟨s1.heap.objs.size, [s1.heap.objs.size], [s1.heap.objs.size], a.cps.size, SignAt a, St, fun _ => true, fun i y => ∃ cc, a.cps[i]? = some cc ∧ y = .bool (pb cc), rfl, W, ?st, ?fp, lim.extBut hx statT, ?wr, ?quiet, ?go⟩
    case st =>
      refine (W X.A hr.hd).frame _ _ _ st0 fun b hb u e => hx b u (fun q => ?_) e
      rw [one b hb] at q
      exact absurd q.symm (Nat.ne_of_lt ltT)
    case fp =>
      intro b hb
      rw [one b hb]
      exact lt3
    case wr =>
      intro hb
      exact absurd (one _ hb) (Nat.ne_of_lt statL)
    case quiet =>
      intro href hh
      constructor
      · intro A2 E2 i v r m hA hv hn hm hk
        simp only [List.forIn_nil]
        exact wpAny_pure ⟨rfl, GxR.keeps_refl _⟩
      · intro A2 E2 i v r m hA hv hp hn hm hk
        obtain ⟨cc, u, hcc, rfl⟩ := hv
        refine wpAny_mono (hel _ A2 E2 cc u r m rfl J.ok.glob (fun b o e => ?_) hn hm) (fun y r3 q => ⟨⟨cc, hcc, q.1⟩, q.2⟩) fun _ _ e => e
        have e1 := J.bk b o e
        have e3 := kept b o (baseT b o e) e1
        refine hk b (List.mem_range.mpr (Heap.lt_size e3)) (fun hb => ?_) o (hh b o e3)
        exact absurd (one b hb) (Nat.ne_of_lt (Heap.lt_size e1))
    case go =>
      intro g h5 tk5 gs hbare hag hsz5 hk5 W5 atg
      simp only [GxR.passing_true, List.length_range] at W5
      refine hQ a H1 g _ hR ⟨_, _, _, _, _, W5.in4_1, atg, ?_, fun s6 hm => ?_⟩
      · intro j y sj Qj Ej hy hQj
        obtain ⟨i, hij, cc, hcc, rfl⟩ := hy
        have ej : j = i := by
          obtain ⟨hj, q⟩ := List.getElem?_eq_some_iff.mp hij
          rw [List.getElem_range] at q
          exact q
        subst ej
        have hq : Qj (GxR.trF pb a.cps.toList j) sj := hQj
        rw [GxR.trF_some (show a.cps.toList[j]? = some cc by rw [Array.getElem?_toList]; exact hcc)] at hq
        exact wpAny_truthy_bool hq
      · have nowr : ∀ b u, s1.heap.get? b = some u → b ∉ h3.objs.size :: [s1.heap.objs.size] := fun b u e hb => by
          have l1 := Heap.lt_size e
          have l2 : b = h3.objs.size ∨ b = s1.heap.objs.size := by simpa using hb
          rcases l2 with q | q
          · rw [q] at l1
            exact absurd (Nat.lt_trans l1 lt3) (Nat.lt_irrefl _)
          · rw [q] at l1
            exact absurd l1 (Nat.lt_irrefl _)
        have gT : s6.heap.get? T = some { cls := .none, data := .fields (ps ++ more) } := by
          rw [← hmore]
          exact hm.heap T _ (nowr T _ atT) (hk5 T _ hT3)
        have J6 := GxR.inv_tab (h' := s6.heap) (g' := s6.gens) (d' := s6.drawn) (t' := s6.toks) J hT (fun b u hb e => hm.heap b u (nowr b u e) (hk5 b u (kept b u hb e))) gT (AllBare.movedS (J.bare.push hbare) hm)
        rw [GxR.sh_eta s1 s6 hm.os] at J6
        exact ⟨upd H1 T (.tbl (ps ++ more)), ⟨⟨ps ++ more, upd_same, by rw [← hmore]; exact tri3⟩, fun b hb => upd_ne hb⟩, J6⟩
  refine ⟨lim, ?_⟩
  cases hf : codeAmong gpos ps.toList with
  | some cv =>
    refine wpAny_genexprCode_hit hcode (hd2.code atT2 tri) hf ?_
    exact rest cv (s1.heap.push io) s1.toks ps #[] (Heap.ExtBut.refl _ _) (Nat.le_refl _) atT2 (by simp) tri
  | none =>
    refine wpAny_genexprCodeX hcode (hd2.code atT2 tri) (hd2.tab atT2) hf fun c2 h4 tk hx hge hlt co _ tab _ => ?_
    obtain ⟨o1, vs, f1, tf, fl, tg, inF, tx, tt, op, _, _, _, _, _, _, _, _, _, tri4, _⟩ := co
    exact rest _ h4 tk _ _ hx (Nat.le_trans hge (Nat.le_of_lt hlt)) tab.2 rfl tri4
theorem pe_allG {c T : Addr} {elt iter : Expr} {x : Str} {px p pos gpos : Pos} {scope : Scope} {pb : Nat → Bool} {te : TE} {k : Nat}
    (hr : Room k X.A) (hg : Gl X "all") (hm : X.mg "all" = none) (TB : TabB X.base X.mg c T) (hcode : X.env.code = .ref c) (S : GenS X.env scope x) (hi : PE X iter te) (hel : EltG X scope x elt pb)
    (hs : ∀ v, genFold iter X.env v = pure v)
    (he : starEach [.GeneratorExp elt [⟨.Name x px, iter, [], 0⟩] scope gpos] X.env = (false, eval (.GeneratorExp elt [⟨.Name x px, iter, [], 0⟩] scope gpos) X.env) :: starEach [] X.env := by rfl) :
    PE X (.Call (.Name "all" p) [.GeneratorExp elt [⟨.Name x px, iter, [], 0⟩] scope gpos] [] pos) (GxR.tAllS T pb te) := by
  constructor
  intro pins s σ H Q I h
  refine wpAny_Call_Name_kw (ld_blt I hg hm (by decide +kernel : bootBuiltins "all" = some (.builtin "all")) ?_)
  refine PyProof.Rows.callWith_builtin1 ?_ he (by rfl)
  rw [he]
  show wpAny _ _ (spliced ((false, eval (.GeneratorExp elt [⟨.Name x px, iter, [], 0⟩] scope gpos) X.env) :: backTo pos (starEach [] X.env))) _ _ s
  refine Calls.spliced_cons (gen_made (R := fun a H1 => ∀ H2, Tabbed T H1 H2 → Q (.bl (a.cps.toList.all pb)) H2) hr TB hcode S hi hel hs I h fun a H1 g s5 hR hG => Calls.spliced_nil ?_)
  obtain ⟨fp, wr, G, F, St, W, st0, truth, back⟩ := hG
  refine call_all_walkS (W.self 0 _ _ _ st0 ⟨g, fp, wr, G, _, F, St, _, rfl, W, st0, truth, fun s6 hmv => ?_⟩)
  obtain ⟨H2, hT, J⟩ := back s6 hmv
  exact ⟨.bl _, H2, J, rfl, by rw [GxR.all_signs a pb]; exact hR H2 hT⟩
end
end WR
namespace WR
open PySem PySem.Spec PyProof.Rows L2
theorem genS_of {env : Env} {scope : Scope} {x : Str} (h1 : scope.kind = .function) (h2 : scope.isCoroutine = false) (h3 : scope.names.lookup (".0" : Str) = some NameKind.local) (h4 : scope.names.lookup x = some .local) (h5 : (scope.names.all fun y => decide (y.2 ≠ .cell) && decide (y.2 ≠ .free)) = true) : GxR.GenS env scope x := by
  have q : ∀ y ∈ scope.names, y.2 ≠ .cell ∧ y.2 ≠ .free := fun y hy => by
    have z := List.all_eq_true.mp h5 y hy
    simpa using z
  exact ⟨h1, h2, fun y hy => (q y hy).1, h3, h4, fun y hy e => absurd e (q y hy).2⟩
/-- what a frame's table is for: the one table of the law's text -/
abbrev TG (T : Addr) (H : Hp) : Prop := GxR.TabG H T
theorem dv_str {H : Hp} {v : V} {x : Str} (h : DV H v (.str x)) : v = .str x := by cases h; rfl
theorem dv_int {H : Hp} {v : V} {i : Int} (h : DV H v (.int i)) : v = .int i := by cases h; rfl
theorem dv_tup {H : Hp} {v : V} {l : List PyData} (h : DV H v (.tuple l)) : ∃ a xs, v = .ref a ∧ H a = some (.tup xs) ∧ DVs H xs l ∧ l.length ≤ 1000 := by
  cases h with
  | tup e t hl => exact ⟨_, _, rfl, e, t, hl⟩
theorem pe_gS {X : Cx} {x z : Str} {t : Tok} {pos : Pos} (hm : X.mg x = some (.str z t)) (hg : Gl X x := by rfl) (hd : (x == ("__debug__" : Str)) = false := by decide) : PE X (.Name x pos) (tC (.str z)) := pe_glob (v := .str z) hg hm ⟨t, rfl⟩ hd
theorem pe_gR {X : Cx} {x : Str} {C : Addr} {pos : Pos} (hm : X.mg x = some (.ref C)) (hg : Gl X x := by rfl) (hd : (x == ("__debug__" : Str)) = false := by decide) : PE X (.Name x pos) (tC (.ref C)) := pe_glob (v := .ref C) hg hm rfl hd
theorem yes_go {σ : L2.St} {A B : Hp → Prop} {H : Hp} (h : A H) : tYes σ H (fun (b : Bool) (H3 : Hp) => if b = true then A H3 else B H3) := by
  show if true = true then A H else B H
  exact iteT h
end WR
namespace WR
open PySem PySem.Spec PyProof.Rows L2
/-! ## dicts as sets of keys -/
theorem putK_le {κ : Type} [DecidableEq κ] (kvs : List (κ × V)) (k : κ) (v : V) : (putK kvs k v).length ≤ kvs.length + 1 := by
  unfold putK
  split <;> simp
/-- kvs has just the keys of S -/
def KeysAre {κ : Type} [DecidableEq κ] (kvs : List (κ × V)) (S : κ → Prop) : Prop := ∀ k, (valV kvs k).isSome = true ↔ S k
theorem keys_nil {κ : Type} [DecidableEq κ] : KeysAre ([] : List (κ × V)) (fun _ => False) := fun k => by simp [valV]
theorem keys_put {κ : Type} [DecidableEq κ] {kvs : List (κ × V)} {S : κ → Prop} (h : KeysAre kvs S) (k : κ) (v : V) : KeysAre (putK kvs k v) (fun j => j = k ∨ S j) := fun j => by
  rw [valV_put]
  by_cases e : j = k
  · simp [e]
  · rw [if_neg e, h j]
    simp [e]
theorem keys_bool {κ : Type} [DecidableEq κ] {kvs : List (κ × V)} {S : κ → Prop} (h : KeysAre kvs S) (k : κ) [Decidable (S k)] : (valV kvs k).isSome = decide (S k) := by
  have := h k
  cases e : (valV kvs k).isSome <;> simp_all
theorem keys_congr {κ : Type} [DecidableEq κ] {kvs : List (κ × V)} {S S' : κ → Prop} (h : KeysAre kvs S) (e : ∀ k, S k ↔ S' k) : KeysAre kvs S' := fun k => (h k).trans (e k)
/-- the keys of a list of texts -/
def KS (l : List Str) : Key → Prop := fun k => ∃ x ∈ l, k = Sum.inr x
/-- .. of pairs of texts, either way about -/
def KP (l : List (Str × Str)) : List Key → Prop := fun k => ∃ a b, ((a, b) ∈ l ∨ (b, a) ∈ l) ∧ k = [Sum.inr a, Sum.inr b]
theorem ks_in {l : List Str} {x : Str} : KS l (Sum.inr x) ↔ x ∈ l := by
  constructor
  · rintro ⟨y, hy, e⟩; cases e; exact hy
  · intro h; exact ⟨x, h, rfl⟩
theorem ks_snoc {l : List Str} {x : Str} (k : Key) : (k = Sum.inr x ∨ KS l k) ↔ KS (l ++ [x]) k := by
  constructor
  · rintro (rfl | ⟨y, hy, rfl⟩)
    · exact ⟨x, by simp, rfl⟩
    · exact ⟨y, by simp [hy], rfl⟩
  · rintro ⟨y, hy, rfl⟩
    rcases List.mem_append.mp hy with h | h
    · exact .inr ⟨y, h, rfl⟩
    · simp at h; subst h; exact .inl rfl
theorem kp_in {l : List (Str × Str)} {a b : Str} : KP l [Sum.inr a, Sum.inr b] ↔ ((a, b) ∈ l ∨ (b, a) ∈ l) := by
  constructor
  · rintro ⟨x, y, h, e⟩
    cases e
    exact h
  · intro h; exact ⟨a, b, h, rfl⟩
theorem kp_snoc {l : List (Str × Str)} {a b : Str} (k : List Key) : (k = [Sum.inr b, Sum.inr a] ∨ (k = [Sum.inr a, Sum.inr b] ∨ KP l k)) ↔ KP (l ++ [(a, b)]) k := by
  constructor
  · rintro (rfl | rfl | ⟨x, y, h, rfl⟩)
    · exact ⟨b, a, .inr (by simp), rfl⟩
    · exact ⟨a, b, .inl (by simp), rfl⟩
    · refine ⟨x, y, ?_, rfl⟩
      rcases h with h | h
      · exact .inl (by simp [h])
      · exact .inr (by simp [h])
  · rintro ⟨x, y, h, rfl⟩
    rcases h with h | h
    · rcases List.mem_append.mp h with h | h
      · exact .inr (.inr ⟨x, y, .inl h, rfl⟩)
      · simp at h; obtain ⟨rfl, rfl⟩ := h; exact .inr (.inl rfl)
    · rcases List.mem_append.mp h with h | h
      · exact .inr (.inr ⟨x, y, .inr h, rfl⟩)
      · simp at h; obtain ⟨rfl, rfl⟩ := h; exact .inl rfl
/-- the data at a turn -/
theorem dvs_at {H : Hp} {vs : List V} {ds : List PyData} {i : Nat} {v : V} (h : DVs H vs ds) (e : vs[i]? = some v) : ∃ d, ds[i]? = some d ∧ DV H v d ∧ ds.drop i = d :: ds.drop (i + 1) ∧ ds.take (i + 1) = ds.take i ++ [d] := by
  obtain ⟨d, q, hd⟩ := h.get e
  obtain ⟨lt, e2⟩ := List.getElem?_eq_some_iff.mp q
  refine ⟨d, q, hd, ?_, ?_⟩
  · rw [List.drop_eq_getElem_cons lt, e2]
  · rw [List.take_succ, q]; rfl
end WR
/-! ## What the defs reckon, over data -/
namespace WR
open PySem
def letters : Str := "abcdefghijklmnopqrstuvwxyz"
def signs : Str := "abcdefghijklmnopqrstuvwxyz0123456789"
def isNameS (x : Str) : Bool := (decide (1 ≤ x.length) && decide (x.length ≤ 8)) && ((match x.cps[0]? with | some c => decide (c ∈ letters.cps.toList) | none => false) && x.cps.toList.all (fun c => decide (c ∈ signs.cps.toList)))
def isName : PyData → Bool
  | .str x => isNameS x
  | _ => false
def isWhole (d : PyData) : Bool := isD "int" d && !isD "bool" d
def isPair : PyData → Bool
  | .tuple [_, _] => true
  | _ => false
def isTextPair : PyData → Bool
  | .tuple [.str _, .str _] => true
  | _ => false
def fromZero : PyData → Bool
  | .int i => decide (0 ≤ i)
  | _ => false
def isEntry : PyData → Bool
  | .tuple [n, w] => isName n && (isWhole w && fromZero w)
  | _ => false
theorem isWhole_int {d : PyData} (h : isWhole d = true) : ∃ i, d = .int i := by
  cases d with
  | int i => exact ⟨i, rfl⟩
  | none => revert h; simp [isWhole, isD, isT, tyD]
  | bool b => revert h; simp [isWhole, isD, isT, tyD]
  | str x => revert h; simp [isWhole, isD, isT, tyD]
  | list x => revert h; simp [isWhole, isD, isT, tyD]
  | tuple x => revert h; simp [isWhole, isD, isT, tyD]
  | dict x => revert h; simp [isWhole, isD, isT, tyD]
theorem textPair_eq (a b : PyData) : isTextPair (.tuple [a, b]) = (isD "str" a && isD "str" b) := by cases a <;> cases b <;> rfl
theorem pair_cases (d : PyData) : (∃ a b, d = .tuple [a, b]) ∨ (isPair d = false ∧ isTextPair d = false ∧ isEntry d = false) := by
  cases d with
  | tuple l =>
    match l with
    | [] => exact .inr ⟨rfl, rfl, rfl⟩
    | [_] => exact .inr ⟨rfl, by simp [isTextPair], by simp [isEntry]⟩
    | [a, b] => exact .inl ⟨a, b, rfl⟩
    | _ :: _ :: _ :: _ => exact .inr ⟨rfl, by simp [isTextPair], by simp [isEntry]⟩
  | _ => exact .inr ⟨rfl, rfl, rfl⟩
/-- the name of an entry -/
def entryName : PyData → Str
  | .tuple [.str x, _] => x
  | _ => ""
theorem entry_shape {d : PyData} (h : isEntry d = true) : ∃ x i, d = .tuple [.str x, .int i] ∧ isNameS x = true ∧ 0 ≤ i := by
  rcases pair_cases d with ⟨a, b, rfl⟩ | ⟨_, _, z⟩
  · simp only [isEntry, Bool.and_eq_true] at h
    obtain ⟨h1, h2, h3⟩ := h
    obtain ⟨i, rfl⟩ := isWhole_int h2
    cases a with
    | str x => exact ⟨x, i, rfl, h1, by simpa [fromZero] using h3⟩
    | _ => cases h1
  · rw [z] at h; cases h
theorem textPair_shape {d : PyData} (h : isTextPair d = true) : ∃ a b, d = .tuple [.str a, .str b] := by
  rcases pair_cases d with ⟨a, b, rfl⟩ | ⟨_, z, _⟩
  · cases a with
    | str x =>
      cases b with
      | str y => exact ⟨x, y, rfl⟩
      | _ => cases h
    | _ => cases h
  · rw [z] at h; cases h
def homeOk (seen : List Str) (d : PyData) : Bool := isEntry d && !decide (entryName d ∈ seen)
def badHome (k : Nat) (seen : List Str) : List PyData → PyData
  | [] => .none
  | d :: r => if homeOk seen d = true then badHome (k + 1) (seen ++ [entryName d]) r else .tuple [.str "home", .int k]
def roadOk (names : List Str) (pairs : List (Str × Str)) : PyData → Bool
  | .tuple [.str a, .str b] => (decide (a ∈ names) && decide (b ∈ names)) && (decide (a ≠ b) && (!decide ((a, b) ∈ pairs) && !decide ((b, a) ∈ pairs)))
  | _ => false
theorem roadOk_text {names : List Str} {pairs : List (Str × Str)} {d : PyData} (h : isTextPair d = false) : roadOk names pairs d = false := by
  cases e : roadOk names pairs d with
  | false => rfl
  | true =>
    unfold roadOk at e
    split at e
    · cases h
    · cases e
def roadEnds : PyData → Str × Str
  | .tuple [.str a, .str b] => (a, b)
  | _ => ("", "")
def badRoad (k : Nat) (names : List Str) (pairs : List (Str × Str)) : List PyData → PyData
  | [] => .none
  | d :: r => if roadOk names pairs d = true then badRoad (k + 1) names (pairs ++ [roadEnds d]) r else .tuple [.str "road", .int k]
def orElse (a b : PyData) : PyData := match a with
  | .none => b
  | _ => a
def townWrong : PyData → PyData
  | .tuple [.tuple (h :: hs), .tuple rs] => orElse (badHome 0 [] (h :: hs)) (badRoad 0 ((h :: hs).map entryName) [] rs)
  | _ => .tuple [.str "town"]
def handOk (seen : List Str) (d : PyData) : Bool := isUnit d || homeOk seen d
def badHand (k : Nat) (seen : List Str) : List PyData → PyData
  | [] => .none
  | d :: r => if handOk seen d = true then badHand (k + 1) (if isUnit d = true then seen else seen ++ [entryName d]) r else .tuple [.str "hand", .int k]
/-- how many homes a town has -/
def homesOf : PyData → Nat
  | .tuple [.tuple hs, _] => hs.length
  | _ => 0
def standingWrong (town : PyData) : PyData → PyData
  | .tuple l => if l.length = homesOf town then badHand 0 [] l else .tuple [.str "standing"]
  | _ => .tuple [.str "standing"]
theorem badHome_none : ∀ (l : List PyData) (k : Nat) (seen : List Str), badHome k seen l = .none → ∀ d ∈ l, isEntry d = true
  | [], _, _, _, _, hd => by cases hd
  | d :: r, k, seen, h, e, he => by
    unfold badHome at h
    by_cases c : homeOk seen d = true
    · rw [if_pos c] at h
      rcases List.mem_cons.mp he with rfl | he
      · exact (Bool.and_eq_true_iff.mp c).1
      · exact badHome_none r _ _ h e he
    · rw [if_neg c] at h
      cases h
theorem bad_shape : ∀ (l : List PyData) (k : Nat) (seen : List Str), badHome k seen l = .none ∨ ∃ i : Nat, badHome k seen l = .tuple [.str "home", .int i]
  | [], _, _ => .inl rfl
  | d :: r, k, seen => by
    unfold badHome
    by_cases c : homeOk seen d = true
    · rw [if_pos c]; exact bad_shape r _ _
    · rw [if_neg c]; exact .inr ⟨k, rfl⟩
theorem badR_shape : ∀ (l : List PyData) (k : Nat) (names : List Str) (pairs : List (Str × Str)), badRoad k names pairs l = .none ∨ ∃ i : Nat, badRoad k names pairs l = .tuple [.str "road", .int i]
  | [], _, _, _ => .inl rfl
  | d :: r, k, names, pairs => by
    unfold badRoad
    by_cases c : roadOk names pairs d = true
    · rw [if_pos c]; exact badR_shape r _ _ _
    · rw [if_neg c]; exact .inr ⟨k, rfl⟩
theorem badH_shape : ∀ (l : List PyData) (k : Nat) (seen : List Str), badHand k seen l = .none ∨ ∃ i : Nat, badHand k seen l = .tuple [.str "hand", .int i]
  | [], _, _ => .inl rfl
  | d :: r, k, seen => by
    unfold badHand
    by_cases c : handOk seen d = true
    · rw [if_pos c]; exact badH_shape r _ _
    · rw [if_neg c]; exact .inr ⟨k, rfl⟩
theorem orElse_none {a b : PyData} : orElse a b = .none ↔ a = .none ∧ b = .none := by
  cases a <;> simp [orElse]
theorem town_shape {t : PyData} (h : townWrong t = .none) : ∃ d l rs, t = .tuple [.tuple (d :: l), .tuple rs] ∧ badHome 0 [] (d :: l) = .none ∧ badRoad 0 ((d :: l).map entryName) [] rs = .none := by
  unfold townWrong at h
  split at h
  · exact ⟨_, _, _, rfl, orElse_none.mp h⟩
  · cases h
theorem town_not {t : PyData} (h : ∀ d l rs, t ≠ .tuple [.tuple (d :: l), .tuple rs]) : townWrong t = .tuple [.str "town"] := by
  unfold townWrong
  split
  · exact absurd rfl (h _ _ _)
  · rfl
theorem isUnit_not_entry {d : PyData} (h : isUnit d = true) : isEntry d = false := by
  unfold isUnit at h
  split at h
  · rfl
  · cases h
theorem isD_tuple {d : PyData} (h : isD "tuple" d = true) : ∃ l, d = .tuple l := by
  cases d with
  | tuple l => exact ⟨l, rfl⟩
  | _ => simp [isD, isT, tyD] at h
end WR
namespace WR
open PySem PySem.Spec PyProof.Rows L2
def topS (i : Nat) : Stmt := PySem.Challenge.pw_worthrooms_k05_exchanges.main.body.getD i (.Pass ⟨0, 0, 0, 0⟩)
section
variable {P : Program} {w : World} {K : PySem.W.Frag} {mg : Str → Option Value} {base : Heap} {f : Addr} {fd : FuncData}
/-! ### is_whole -/
abbrev s_is_whole : Stmt := topS 10
abbrev N_is_whole : List Str := ["thing"]
abbrev P_is_whole : List Str := ["thing"]
theorem sc_is_whole : FnScope N_is_whole P_is_whole (defScope s_is_whole) := ⟨rfl, rfl, rfl, by decide +kernel, rfl, by decide +kernel, by decide +kernel⟩

def sp_is_whole : Sp := fun vs H Q _ => ∃ v d, vs = [v] ∧ DV H v d ∧ Q (.bl (isWhole d)) H
theorem ok_is_whole (F : FnP K "is_whole" s_is_whole f fd) (fr : Free mg) : FnOk P w K mg base (L2.CX P w) 1 f fd P_is_whole sp_is_whole := by
  refine F.ok sc_is_whole (fun vs H Q E h => ?_) (fun cdv A outer s H vs Q E hr h => ⟨_, PSs.nox (pss_one (ps_ret (pe_and (pe_callB call_isD (by rfl) (fr "isinstance" (by decide)) (by decide +kernel) (pa_cons (pv 0) (pa_cons (pe_ty (n := "int") fr) pa_nil))) (pe_one (pe_not (pe_callB call_isD (by rfl) (fr "isinstance" (by decide)) (by decide +kernel) (pa_cons (pv 0) (pa_cons (pe_ty (n := "bool") fr) pa_nil)))))))), ?_⟩)
  · obtain ⟨v, d, rfl, _⟩ := h; rfl
  · obtain ⟨v, d, rfl, hd, q⟩ := h
    refine ⟨v, rfl, v, "int", d, rfl, hd, .inl rfl, _, rfl, ?_⟩
    cases e : isD "int" d with
    | false =>
      refine iteF ?_
      have z : isWhole d = false := by unfold isWhole; rw [e]; rfl
      rw [z] at q; exact q
    | true =>
      refine iteT ⟨v, rfl, v, "bool", d, rfl, hd, .inr (.inl rfl), _, rfl, ?_⟩
      have z : isWhole d = !isD "bool" d := by unfold isWhole; rw [e]; rfl
      rw [z] at q; exact q
/-! ### is_pair -/
abbrev s_is_pair : Stmt := topS 12
abbrev N_is_pair : List Str := ["thing"]
abbrev P_is_pair : List Str := ["thing"]
theorem sc_is_pair : FnScope N_is_pair P_is_pair (defScope s_is_pair) := ⟨rfl, rfl, rfl, by decide +kernel, rfl, by decide +kernel, by decide +kernel⟩

def sp_is_pair : Sp := fun vs H Q _ => ∃ v d, vs = [v] ∧ DV H v d ∧ Q (.bl (isPair d)) H
theorem ok_is_pair (F : FnP K "is_pair" s_is_pair f fd) (fr : Free mg) : FnOk P w K mg base (L2.CX P w) 1 f fd P_is_pair sp_is_pair := by
  refine F.ok sc_is_pair (fun vs H Q E h => ?_) (fun cdv A outer s H vs Q E hr h => ⟨_, PSs.nox (pss_one (ps_ret (pe_and (pe_callB call_isD (by rfl) (fr "isinstance" (by decide)) (by decide +kernel) (pa_cons (pv 0) (pa_cons (pe_ty (n := "tuple") fr) pa_nil))) (pe_one (pe_cmpR op_eq (pe_callB call_lenD' (by rfl) (fr "len" (by decide)) (by decide +kernel) (pa_cons (pv 0) pa_nil)) pe_int (nomark _)))))), ?_⟩)
  · obtain ⟨v, d, rfl, _⟩ := h; rfl
  · obtain ⟨v, d, rfl, hd, q⟩ := h
    refine ⟨v, rfl, v, "tuple", d, rfl, hd, .inr (.inr (.inr rfl)), _, rfl, ?_⟩
    cases d with
    | tuple l =>
      refine iteT ⟨v, rfl, v, .tuple l, l.length, rfl, hd, rfl, rfl, ?_⟩
      have z : isPair (.tuple l) = decide (V.int (l.length : Int) = V.int 2) := by
        match l with
        | [] => rfl
        | [_] => rfl
        | [_, _] => rfl
        | _ :: _ :: _ :: r => simp only [isPair, List.length_cons]; exact (decide_eq_false (fun z => by have := V.int.inj z; omega)).symm
      rw [z] at q; exact q
    | _ => exact iteF q
/-! ### is_name -/
abbrev s_is_name : Stmt := topS 11
abbrev N_is_name : List Str := ["thing", "sign"]
abbrev P_is_name : List Str := ["thing"]
theorem sc_is_name : FnScope N_is_name P_is_name (defScope s_is_name) := ⟨rfl, rfl, rfl, by decide +kernel, rfl, by decide +kernel, by decide +kernel⟩

def sp_is_name (T : Addr) : Sp := fun vs H Q _ => ∃ v d, vs = [v] ∧ DV H v d ∧ TG T H ∧ ∀ H', StayT H H' → Q (.bl (isName d)) H'
theorem ok_is_name {c T : Addr} {tz tl : Tok} (F : FnP K "is_name" s_is_name f fd) (fr : Free mg) (hc : fd.code = .ref c) (TB : GxR.TabB base mg c T) (hmod : base.Ns mainGlobals mg) (g_SIGNS : mg "SIGNS" = some (.str signs tz)) (g_LETTERS : mg "LETTERS" = some (.str letters tl)) :
    FnOk P w K mg base (L2.CX P w) 1 f fd P_is_name (sp_is_name T) := by
  obtain ⟨oc, od, dV, kV, doc, pm, an, cdv, ct, osl, rfl, lk, hcd, _, _⟩ := F.ex
  have ec : cdv = .ref c := hc
  subst ec
  refine fn_of lk hcd sc_is_name (fun vs H Q E h => ?_) (fun A outer s H vs Q E hr h => ⟨_, PSs.nox (pss_cons (ps_if (PW.pt (pw_or (pt_not (pt_val (pe_callB call_isD (by rfl) (fr "isinstance" (by decide)) (by decide +kernel) (pa_cons (pv 0) (pa_cons (pe_ty (n := "str") fr) pa_nil))))) (pw_or1 (pt_not (pt_chain op_le op_le pe_int (pe_callB call_lenD' (by rfl) (fr "len" (by decide)) (by decide +kernel) (pa_cons (pv 0) pa_nil)) pe_int))))) (pss_one (ps_ret pe_bl)) pss_nil)
    (pss_one (ps_ret (pe_and (pe_cmpR op_in_sign (pe_ix ix_D (pv 0) pe_int (fun _ _ => rfl)) (pe_gS g_LETTERS) rfl) (pe_one (pe_allG hr rfl (fr "all" (by decide)) TB rfl (genS_of rfl rfl rfl rfl (by decide +kernel)) (pv 0) (elt_inG rfl rfl rfl hmod g_SIGNS) (fun _ => rfl))))))), ?_⟩)
  · obtain ⟨v, d, rfl, _⟩ := h; rfl
  · obtain ⟨v, d, rfl, hd, tg, q⟩ := h
    have no : isName d = false → Q (.bl false) H := fun z => by
      have q2 := q H (StayT.refl H)
      rw [z] at q2; exact q2
    refine ⟨v, rfl, v, "str", d, rfl, hd, .inr (.inr (.inl rfl)), _, rfl, ?_⟩
    by_cases ds : ∃ x, d = .str x
    · obtain ⟨x, rfl⟩ := ds
      refine ⟨v, rfl, v, _, x.length, rfl, hd, rfl, _, _, rfl, rfl, _, rfl, ?_⟩
      refine ite2 (fun h1 => ?_) (fun h1 => ?_)
      · refine ⟨_, _, rfl, rfl, _, rfl, ?_⟩
        have l1 : 1 ≤ x.length := by have := of_decide_eq_true h1; omega
        refine ite2 (fun h2 => no ?_) (fun h2 => ?_)
        · have l2 : ¬ x.length ≤ 8 := by
            simp only [Bool.not_eq_true', decide_eq_false_iff_not] at h2; omega
          simp [isName, isNameS, l2]
        · have l2 : x.length ≤ 8 := by
            simp only [Bool.not_eq_true', decide_eq_false_iff_not, Decidable.not_not] at h2; omega
          obtain ⟨c0, hc0⟩ : ∃ c0, x.cps[0]? = some c0 := ⟨x.cps[0], Array.getElem?_eq_getElem l1⟩
          refine ⟨v, rfl, .str x, .str ⟨#[c0]⟩, 0, hd, rfl, by simp [itemD, hc0], fun v2 hv2 => ?_⟩
          cases dv_str hv2
          refine ⟨c0, letters, rfl, rfl, _, rfl, ?_⟩
          have key : isName (.str x) = (decide (c0 ∈ letters.cps.toList) && x.cps.toList.all (fun c => decide (c ∈ signs.cps.toList))) := by
            simp [isName, isNameS, l1, l2, hc0]
          cases e : decide (c0 ∈ letters.cps.toList) with
          | false => exact iteF (no (by rw [key, e]; rfl))
          | true =>
            refine iteT ⟨v, rfl, x, dv_str hd, tg, fun H2 tb => ?_⟩
            have q2 := q H2 (StayT.tabbed tb tg)
            rw [key, e, Bool.true_and] at q2
            exact q2
      · refine ⟨_, rfl, iteT (no ?_)⟩
        have l1 : ¬ 1 ≤ x.length := fun z => h1 (decide_eq_true (by omega))
        simp [isName, isNameS, l1]
    · have z : isD "str" d = false := by
        cases d with
        | str x => exact absurd ⟨x, rfl⟩ ds
        | _ => rfl
      rw [z]
      refine iteT (no ?_)
      cases d with
      | str x => exact absurd ⟨x, rfl⟩ ds
      | _ => rfl
/-! ### is_text_pair -/
abbrev s_is_text_pair : Stmt := topS 13
abbrev N_is_text_pair : List Str := ["thing"]
abbrev P_is_text_pair : List Str := ["thing"]
theorem sc_is_text_pair : FnScope N_is_text_pair P_is_text_pair (defScope s_is_text_pair) := ⟨rfl, rfl, rfl, by decide +kernel, rfl, by decide +kernel, by decide +kernel⟩

def sp_is_text_pair : Sp := fun vs H Q _ => ∃ v d, vs = [v] ∧ DV H v d ∧ Q (.bl (isTextPair d)) H
theorem ok_is_text_pair (F : FnP K "is_text_pair" s_is_text_pair f fd) (fr : Free mg) (c_is_pair : Cal P w K mg base "is_pair" 1 P_is_pair sp_is_pair) : FnOk P w K mg base (L2.CX P w) 2 f fd P_is_text_pair sp_is_text_pair := by
  refine F.ok sc_is_text_pair (fun vs H Q E h => ?_) (fun cdv A outer s H vs Q E hr h => ⟨_, PSs.nox (pss_one (ps_ret (pe_and (pe_F c_is_pair (hr.mono (by omega)) (pa_cons (pv 0) pa_nil)) (pe_and (pe_callB call_isD (by rfl) (fr "isinstance" (by decide)) (by decide +kernel) (pa_cons (pe_ix ix_D (pv 0) pe_int (fun _ _ => rfl)) (pa_cons (pe_ty (n := "str") fr) pa_nil))) (pe_one (pe_callB call_isD (by rfl) (fr "isinstance" (by decide)) (by decide +kernel) (pa_cons (pe_ix ix_D (pv 0) pe_int (fun _ _ => rfl)) (pa_cons (pe_ty (n := "str") fr) pa_nil)))))))), ?_⟩)
  · obtain ⟨v, d, rfl, _⟩ := h; rfl
  · obtain ⟨v, d, rfl, hd, q⟩ := h
    refine ⟨v, rfl, v, d, rfl, hd, _, rfl, ?_⟩
    rcases pair_cases d with ⟨a, b, rfl⟩ | ⟨z, z2, _⟩
    · refine iteT ⟨v, rfl, .tuple [a, b], a, 0, hd, rfl, rfl, fun va ha => ⟨va, "str", a, rfl, ha, .inr (.inr (.inl rfl)), _, rfl, ?_⟩⟩
      rw [textPair_eq] at q
      cases ea : isD "str" a with
      | false =>
        rw [ea] at q
        exact iteF q
      | true =>
        rw [ea] at q
        exact iteT ⟨v, rfl, .tuple [a, b], b, 1, hd, rfl, rfl, fun vb hb => ⟨vb, "str", b, rfl, hb, .inr (.inr (.inl rfl)), q⟩⟩
    · rw [z]
      rw [z2] at q
      exact iteF q
/-! ### is_entry -/
abbrev s_is_entry : Stmt := topS 14
abbrev N_is_entry : List Str := ["thing"]
abbrev P_is_entry : List Str := ["thing"]
theorem sc_is_entry : FnScope N_is_entry P_is_entry (defScope s_is_entry) := ⟨rfl, rfl, rfl, by decide +kernel, rfl, by decide +kernel, by decide +kernel⟩

def sp_is_entry (T : Addr) : Sp := fun vs H Q _ => ∃ v d, vs = [v] ∧ DV H v d ∧ TG T H ∧ ∀ H', StayT H H' → Q (.bl (isEntry d)) H'
theorem ok_is_entry {T : Addr} (F : FnP K "is_entry" s_is_entry f fd) (fr : Free mg) (c_is_pair : Cal P w K mg base "is_pair" 1 P_is_pair sp_is_pair) (c_is_name : Cal P w K mg base "is_name" 1 P_is_name (sp_is_name T)) (c_is_whole : Cal P w K mg base "is_whole" 1 P_is_whole sp_is_whole) :
    FnOk P w K mg base (L2.CX P w) 2 f fd P_is_entry (sp_is_entry T) := by
  refine F.ok sc_is_entry (fun vs H Q E h => ?_) (fun cdv A outer s H vs Q E hr h => ⟨_, PSs.nox (pss_one (ps_ret (pe_and (pe_F c_is_pair (hr.mono (by omega)) (pa_cons (pv 0) pa_nil)) (pe_and (pe_F c_is_name (hr.mono (by omega)) (pa_cons (pe_ix ix_D (pv 0) pe_int (fun _ _ => rfl)) pa_nil)) (pe_and (pe_F c_is_whole (hr.mono (by omega)) (pa_cons (pe_ix ix_D (pv 0) pe_int (fun _ _ => rfl)) pa_nil)) (pe_one (pe_cmpR op_ge (pe_ix ix_D (pv 0) pe_int (fun _ _ => rfl)) pe_int (nomark _)))))))), ?_⟩)
  · obtain ⟨v, d, rfl, _⟩ := h; rfl
  · obtain ⟨v, d, rfl, hd, tg, q⟩ := h
    refine ⟨v, rfl, v, d, rfl, hd, _, rfl, ?_⟩
    rcases pair_cases d with ⟨a, b, rfl⟩ | ⟨z, _, z2⟩
    · refine iteT ⟨v, rfl, .tuple [a, b], a, 0, hd, rfl, rfl, fun va ha => ⟨va, a, rfl, ha, tg, fun H1 s1 => ⟨_, rfl, ?_⟩⟩⟩
      have hd1 := hd.stay s1
      cases ea : isName a with
      | false =>
        refine iteF ?_
        have q2 := q H1 s1
        have z : isEntry (.tuple [a, b]) = false := by simp [isEntry, ea]
        rw [z] at q2; exact q2
      | true =>
        refine iteT ⟨v, rfl, .tuple [a, b], b, 1, hd1, rfl, rfl, fun vb hb => ⟨vb, b, rfl, hb, _, rfl, ?_⟩⟩
        have q2 := q H1 s1
        cases eb : isWhole b with
        | false =>
          refine iteF ?_
          have z : isEntry (.tuple [a, b]) = false := by simp [isEntry, eb]
          rw [z] at q2; exact q2
        | true =>
          obtain ⟨i, rfl⟩ := isWhole_int eb
          refine iteT ⟨v, rfl, .tuple [a, .int i], .int i, 1, hd1, rfl, rfl, fun vc hc => ?_⟩
          cases dv_int hc
          refine ⟨i, 0, rfl, rfl, ?_⟩
          have z : isEntry (.tuple [a, .int i]) = decide (0 ≤ i) := by simp [isEntry, ea, eb, fromZero]
          rw [z] at q2; exact q2
    · have q2 := q H (StayT.refl H)
      rw [z]
      rw [z2] at q2
      exact iteF q2
end
end WR
namespace WR
open PySem PySem.Spec PyProof.Rows L2
section
variable {P : Program} {w : World} {K : PySem.W.Frag} {mg : Str → Option Value} {base : Heap} {f : Addr} {fd : FuncData} {T : Addr}
/-! ### bad_home -/
abbrev s_bad_home : Stmt := topS 15
abbrev N_bad_home : List Str := ["homes", "names", "k", "home"]
abbrev P_bad_home : List Str := ["homes"]
theorem sc_bad_home : FnScope N_bad_home P_bad_home (defScope s_bad_home) := ⟨rfl, rfl, rfl, by decide +kernel, rfl, by decide +kernel, by decide +kernel⟩

def sp_bad_home (T : Addr) : Sp := fun vs H Q _ => ∃ v l, vs = [v] ∧ DV H v (.tuple l) ∧ TG T H ∧ ∀ H' r, StayT H H' → DV H' r (badHome 0 [] l) → Q r H'
theorem ok_bad_home (F : FnP K "bad_home" s_bad_home f fd) (fr : Free mg) (c_is_entry : Cal P w K mg base "is_entry" 2 P_is_entry (sp_is_entry T)) :
    FnOk P w K mg base (L2.CX P w) 3 f fd P_bad_home (sp_bad_home T) := by
  refine F.ok sc_bad_home (fun vs H Q E h => ?_) (fun cdv A outer s H vs Q E hr h => ⟨_, PSs.nox (pss_cons (ps_set (i := 1) sc_bad_home.nd rfl (Or.inl rfl) pe_dnewK)
    (pss_cons (ps_for PassesOwn.never rfl (pi_enumT rfl (fr "enumerate" (by decide)) (pa_cons (pv 0) pa_nil)) (pg_tup rfl (pgs_cons (pg_name (i := 2) sc_bad_home.nd rfl (Or.inl rfl)) (pgs_cons (pg_name (i := 3) sc_bad_home.nd rfl (Or.inl rfl)) pgs_nil))) (pss_cons (ps_if (PW.pt (pw_or (pt_not (pt_val (pe_F c_is_entry (hr.mono (by omega)) (pa_cons (pv 3) pa_nil)))) (pw_or1 (pt_cmp (pc_din (hu_of hr) (pe_ix ix_D (pv 3) pe_int (fun _ _ => rfl)) (pv 1)))))) (pss_one (ps_ret (pe_tup (pa_cons pe_str (pa_cons (pv 2) pa_nil))))) pss_nil)
    (pss_one (ps_dput (hu_of hr) (pv 1) (pe_ix ix_D (pv 3) pe_int (fun _ _ => rfl)) pe_bl rfl))))
    (pss_one (ps_ret pe_non)))), ?_⟩)
  · obtain ⟨v, d, rfl, _⟩ := h; rfl
  · obtain ⟨v, l, rfl, hd, tg, q⟩ := h
    obtain ⟨a, xs, rfl, ha, hxs, hl⟩ := dv_tup hd
    refine fun dn ndn => ⟨_, rfl, a, xs, rfl, SqT.of (by rw [upd_ne (ne_of_none ha ndn)]; exact ha), ?_⟩
    refine for_it (walk_enumT (xs := xs)) (fun i σ H1 => ∃ (seen : List Str) (kvs : List (Key × V)) (v2 v3 : Option V), σ = [some (.ref a), some (.ref dn), v2, v3] ∧ StayT H H1 ∧ H1 dn = some (.dK kvs) ∧ KeysAre kvs (KS seen) ∧ kvs.length ≤ i ∧
        badHome 0 [] l = badHome i seen (l.drop i)) ?h0 ?hG ?hs ?hd
    case h0 => exact ⟨[], [], none, none, rfl, (StayT.refl H).new ndn, upd_same, keys_congr keys_nil fun k => by simp [KS], Nat.le_refl _, rfl⟩
    case hG =>
      rintro i σ H1 hi ⟨seen, kvs, v2, v3, rfl, s1, hdn, hk, hle, e⟩
      exact SqT.of (s1.same _ _ ha fun _ z => nomatch z)
    case hs =>
      rintro i x σ H1 H2 hi ⟨seen, kvs, v2, v3, rfl, s1, hdn, hk, hle, e⟩ ⟨p, i0, x, rfl, hp, rfl, e0, hx⟩
      cases e0
      obtain ⟨d, _, hdx, hdrop, _⟩ := dvs_at hxs hx
      have s2 := s1.new (o := .tup [.int (i : Nat), x]) hp
      have tg2 := s2.tabG tg
      have hdx2 := hdx.stay s2
      refine ⟨p, _, rfl, SqT.of upd_same, rfl, _, _, rfl, _, _, rfl, rfl, ?_⟩
      refine ⟨x, rfl, x, d, rfl, hdx2, tg2, fun H3 s3 => ⟨_, rfl, ?_⟩⟩
      have s13 := s2.trans s3
      have hdx3 := hdx.stay s13
      have hdn3 : H3 dn = some (.dK kvs) := s3.same _ _ (by rw [upd_ne (ne_of_none hdn hp)]; exact hdn) fun _ z => nomatch z
      rw [hdrop] at e
      have bad : homeOk seen d = false → badHome 0 [] l = .tuple [.str "home", .int i] := fun z => by
        rw [e]; unfold badHome; rw [z]; rfl
      have ret : homeOk seen d = false → ∀ D : Ends, D.rt = Q → tRet (tTup (tCons (tC (.str "home")) (tCons (tVar 2) tNil))) D [some (.ref a), some (.ref dn), some (.int (i : Nat)), some x] H3 := fun z D eD => by
        unfold tRet
        rw [eD]
        refine ⟨_, rfl, by show 2 ≤ sizeLine; decide, fun r hr2 => q _ _ (s13.new hr2) ?_⟩
        rw [bad z]
        exact .tup upd_same (.two (.str (by decide +kernel) (by decide +kernel)) (.int _)) (by show 2 ≤ 1000; decide)
      cases en : isEntry d with
      | false =>
        refine iteT ?_
        exact ret (by simp [homeOk, en]) _ rfl
      | true =>
        refine iteF ?_
        obtain ⟨nm, w0, rfl, _, _⟩ := entry_shape en
        refine ⟨x, rfl, .tuple [.str nm, .int w0], .str nm, 0, hdx3, rfl, rfl, fun vn hn => ?_⟩
        cases dv_str hn
        refine ⟨.ref dn, rfl, dn, _, rfl, DGet.k (k := Sum.inr nm) hdn3, _, rfl, ?_⟩
        by_cases ins : nm ∈ seen
        · have z : (valV kvs (Sum.inr nm)).isSome = true := (hk _).mpr (ks_in.mpr ins)
          rw [z]
          exact iteT (ret (by simp [homeOk, en, entryName, ins]) _ rfl)
        · have z : (valV kvs (Sum.inr nm)).isSome = false := by
            cases zz : (valV kvs (Sum.inr nm)).isSome with
            | false => rfl
            | true => exact absurd (ks_in.mp ((hk _).mp zz)) ins
          rw [z]
          refine iteF ⟨.ref dn, rfl, x, rfl, .tuple [.str nm, .int w0], .str nm, 0, hdx3, rfl, rfl, fun vn2 hn2 => ?_⟩
          cases dv_str hn2
          have hlt : kvs.length < sizeLine := by
            have h1 : xs.length = l.length := hxs.length
            have h2 : kvs.length < 1000 := by omega
            exact Nat.lt_trans h2 (by decide)
          refine ⟨dn, _, rfl, DPut.k (k := Sum.inr nm) hdn3 hlt, ?_⟩
          refine ⟨seen ++ [nm], _, _, _, rfl, s13.upd ndn, upd_same, keys_congr (keys_put hk (Sum.inr nm) (.bl true)) fun k => ks_snoc k, ?_, ?_⟩
          · have := putK_le kvs (Sum.inr nm) (.bl true); omega
          · rw [e]; conv => lhs; unfold badHome
            rw [if_pos (by simp [homeOk, en, entryName, ins])]
            rfl
    case hd =>
      rintro σ H1 ⟨seen, kvs, v2, v3, rfl, s1, hdn, hk, hle, e⟩
      refine q _ _ s1 ?_
      rw [e, hxs.length, List.drop_length]
      exact .non
end
end WR
namespace WR
open PySem PySem.Spec PyProof.Rows L2
/-! ## name = {k: v for ..} on one line -/
theorem ps_setDc {X : Cx} {i : Nat} {y : Str} {py : Pos} {kx vx tg iter : Expr} {ifs : List Expr} {scope : Scope} {own : List (Str × Nat)} {pos spos : Pos} {wi : TI} {g : L2.TG} {tt : TT} {tk tv : TE} (hc : X.calm = true) (hN : X.N.Nodup) (hy : X.N[i]? = some y)
    (hyl : X.env.scope.names.lookup y = some .local) (hsw : swapsWith (.DictComp kx vx [⟨tg, iter, ifs, 0⟩] scope pos) (some (.Name y py)) spos.line X.env = pure true) (hi : PI X tg iter wi) (ok : BlkOk X.N X.env.scope scope own)
    (hg : ∀ (r : Shared) (G : Hp) (C : Addr) (cl : List (Str × Addr)) (fp : List Addr), PG (X.blk r G scope (compEnvC scope cl C X.env) fp) tg g)
    (ht : ∀ (r : Shared) (G : Hp) (C : Addr) (cl : List (Str × Addr)) (fp : List Addr), PTs (X.blk r G scope (compEnvC scope cl C X.env) fp) ifs tt)
    (hk : ∀ (r : Shared) (G : Hp) (C : Addr) (cl : List (Str × Addr)) (fp : List Addr), PE (X.blk r G scope (compEnvC scope cl C X.env) fp) kx tk)
    (he : ∀ (r : Shared) (G : Hp) (C : Addr) (cl : List (Str × Addr)) (fp : List Addr), PE (X.blk r G scope (compEnvC scope cl C X.env) fp) vx tv)
    (hs : ∀ x, foldedSetIterable iter X.env x = pure x := by intro _; rfl) :
    PS X (.Assign [.Name y py] (.DictComp kx vx [⟨tg, iter, ifs, 0⟩] scope pos) spos) (tAsg (tDc wi g tt tk tv (own.map (·.2))) (gName i)) := by
  constructor
  intro pins s σ H D I h
  rw [exec_Assign_Name_used _ _ _ _ hsw]
  refine wpAny_bind (wpAny_standAt (wpAny_bind ?_))
  show wpAny _ X.A (do let _ ← comprehension (.DictComp kx vx [⟨tg, iter, ifs, 0⟩] scope pos) scope X.env _ newDict false (eval iter X.env) (some (assign (.Name y py) X.env))) _ _ s
  refine wpAny_bind (thn (dc_core (Qf := fun _ r => SP X pins D .next r) (Q := fun x G => gName i x σ G D.nx) hc hN I hi ok hg ht hk he hs h fun d C r m G J q hn f => ?_) fun _ r hq => wpAny_pure (wpAny_pure hq))
  show wpAny _ _ (assign (.Name y py) X.env (.ref d)) _ _ _
  refine wpAny_assign_Name (store_ok2 (v := V.ref d) J hN hy (Or.inl hyl) rfl (fun r2 J2 sb => ?_) (Or.inr hyl))
  obtain ⟨a, sb, ha⟩ := sb
  obtain ⟨f0, f1, f2, f3, f4, f5⟩ := f
  have apart : C ≠ a := by
    rcases ha with z | z
    · rw [z]; exact f1
    · exact fun e => f4 y a z e.symm
  exact ⟨m, hn.sameBut sb apart, fun h3 sb3 => ⟨_, G, J2.turned (t' := r2.toks) (fun b o hb e => (sb3.2 b hb).trans e) f0 f1 f3 f4 f5, q⟩⟩
theorem sw_dc {kx vx : Expr} {gs : List Comprehension} {scope : Scope} {pos py : Pos} {y : Str} {l : Nat} {env : Env} (hk : env.scope.kind = .function) (hy : env.scope.names.lookup y = some .local) (hl : (py.line == pos.line) = true)
    (ha : (scope.names.any fun (n, k) => n == y && (k == .local || k == .cell)) = false) : swapsWith (.DictComp kx vx gs scope pos) (some (.Name y py)) l env = pure true := by
  have e1 : env.kindOf y = some .local := hy
  have e2 : env.blockKind = .function := by unfold Env.blockKind; rw [hk]; rfl
  unfold swapsWith
  simp only [e2, e1, ha, Expr.pos, hl]
  rfl
end WR
namespace WR
open PySem PySem.Spec PyProof.Rows L2
section
variable {P : Program} {w : World} {K : PySem.W.Frag} {mg : Str → Option Value} {base : Heap} {f : Addr} {fd : FuncData} {T : Addr}
/-! ### bad_road -/
abbrev s_bad_road : Stmt := topS 16
abbrev N_bad_road : List Str := ["homes", "roads", "names", "joined", "k", "road", "near", "far", "name", "_"]
abbrev P_bad_road : List Str := ["homes", "roads"]
theorem sc_bad_road : FnScope N_bad_road P_bad_road (defScope s_bad_road) := ⟨rfl, rfl, rfl, by decide +kernel, rfl, by decide +kernel, by decide +kernel⟩

def sp_bad_road : Sp := fun vs H Q _ => ∃ vh hs vr rs, vs = [vh, vr] ∧ DV H vh (.tuple hs) ∧ (∀ d ∈ hs, isEntry d = true) ∧ DV H vr (.tuple rs) ∧ ∀ H' r, StayT H H' → DV H' r (badRoad 0 (hs.map entryName) [] rs) → Q r H'
theorem ok_bad_road (F : FnP K "bad_road" s_bad_road f fd) (fr : Free mg) (c_is_text_pair : Cal P w K mg base "is_text_pair" 2 P_is_text_pair sp_is_text_pair) :
    FnOk P w K mg base (L2.CX P w) 3 f fd P_bad_road sp_bad_road := by
  refine F.ok sc_bad_road (fun vs H Q E h => ?_) (fun cdv A outer s H vs Q E hr h => ⟨_, PSs.nox (pss_cons (ps_setDc (i := 2) (own := [("name", 8), ("_", 9)]) (g := gTup K 2 (gCons (gName 8) (gCons (gName 9) (gNil)))) (tt := tYes) rfl sc_bad_road.nd rfl rfl (sw_dc rfl rfl rfl (by decide +kernel)) (pi_tup (pv 0)) (blkOk_by (N := N_bad_road) (sc := defScope s_bad_road) (by decide +kernel)) (fun _ _ _ _ _ => (pg_tup rfl (pgs_cons (pg_name (i := 8) sc_bad_road.nd rfl (Or.inl rfl)) (pgs_cons (pg_name (i := 9) sc_bad_road.nd rfl (Or.inl rfl)) pgs_nil)))) (fun _ _ _ _ _ => pts_nil) (fun _ _ _ _ _ => (pv 8)) (fun _ _ _ _ _ => pe_bl))
    (pss_cons (ps_set (i := 3) sc_bad_road.nd rfl (Or.inl rfl) pe_dnewT)
    (pss_cons (ps_for PassesOwn.never rfl (pi_enumT rfl (fr "enumerate" (by decide)) (pa_cons (pv 1) pa_nil)) (pg_tup rfl (pgs_cons (pg_name (i := 4) sc_bad_road.nd rfl (Or.inl rfl)) (pgs_cons (pg_name (i := 5) sc_bad_road.nd rfl (Or.inl rfl)) pgs_nil))) (pss_cons (ps_if (PW.pt (pw_or (pt_not (pt_val (pe_F c_is_text_pair (hr.mono (by omega)) (pa_cons (pv 5) pa_nil)))) (pw_or1 (pt_cmp (pc_din (hu_of hr) (pv 5) (pv 3)))))) (pss_one (ps_ret (pe_tup (pa_cons pe_str (pa_cons (pv 4) pa_nil))))) pss_nil)
    (pss_cons (ps_asg (pv 5) (pg_tup rfl (pgs_cons (pg_name (i := 6) sc_bad_road.nd rfl (Or.inl rfl)) (pgs_cons (pg_name (i := 7) sc_bad_road.nd rfl (Or.inl rfl)) pgs_nil))))
    (pss_cons (ps_if (PW.pt (pw_or (pt_cmp (pc_dnotin (hu_of hr) (pv 6) (pv 2))) (pw_or (pt_cmp (pc_dnotin (hu_of hr) (pv 7) (pv 2))) (pw_or1 (pt_cmpR op_eq (pv 6) (pv 7) (nomark _)))))) (pss_one (ps_ret (pe_tup (pa_cons pe_str (pa_cons (pv 4) pa_nil))))) pss_nil)
    (pss_cons (ps_dput (hu_of hr) (pv 3) (pe_tup (pa_cons (pv 6) (pa_cons (pv 7) pa_nil))) pe_bl rfl)
    (pss_one (ps_dput (hu_of hr) (pv 3) (pe_tup (pa_cons (pv 7) (pa_cons (pv 6) pa_nil))) pe_bl rfl)))))))
    (pss_one (ps_ret pe_non))))), ?_⟩)
  · obtain ⟨vh, hs, vr, rs, rfl, _⟩ := h; rfl
  · obtain ⟨vh, hs, vr, rs, rfl, hdh, ent, hdr, q⟩ := h
    obtain ⟨a, xs, rfl, ha, hxs, hl⟩ := dv_tup hdh
    obtain ⟨b, ys, rfl, hb, hys, hl2⟩ := dv_tup hdr
    refine ⟨_, rfl, a, rfl, ⟨xs, SqT.of ha⟩, fun nd nnd => ?_⟩
    refine dc_tup (xs := xs) (fun i H1 => StayT H H1 ∧ ∃ kvs, H1 nd = some (.dK kvs) ∧ KeysAre kvs (KS ((hs.take i).map entryName)) ∧ kvs.length ≤ i) ?c0 ?cl ?cs ?cd
    case c0 => exact ⟨(StayT.refl H).new nnd, [], upd_same, keys_congr keys_nil fun k => by simp [KS], Nat.le_refl _⟩
    case cl =>
      rintro i H1 hi ⟨s1, _⟩
      exact SqT.of (s1.same _ _ ha fun _ z => nomatch z)
    case cs =>
      rintro i x H1 hx ⟨s1, kvs, hnd, hk, hle⟩
      obtain ⟨d, hd1, hdx, _, htake⟩ := dvs_at hxs hx
      have en := ent d (List.mem_of_getElem? hd1)
      obtain ⟨nm, w0, rfl, _, _⟩ := entry_shape en
      obtain ⟨pa, zs, rfl, hpa, hzs, _⟩ := dv_tup (hdx.stay s1)
      cases hzs with
      | @cons v0 vs0 d0 ds0 h0 t0 =>
        cases t0 with
        | @cons v1 vs1 d1 ds1 h1 t1 =>
          cases t1
          cases dv_str h0
          refine ⟨pa, _, rfl, SqT.of hpa, rfl, _, _, rfl, _, _, rfl, rfl, rfl, ?_⟩
          refine yes_go ?_
          refine ⟨_, rfl, kvs, Sum.inr nm, rfl, hnd, ?_, ?_⟩
          · have h1 : xs.length = hs.length := hxs.length
            have h2 : i < xs.length := (List.getElem?_eq_some_iff.mp hx).1
            have h3 : kvs.length < 1000 := by omega
            exact Nat.lt_trans h3 (by decide)
          · refine ⟨s1.upd nnd, _, upd_same, keys_congr (keys_put hk (Sum.inr nm) (.bl true)) fun k => ?_, ?_⟩
            · rw [htake, List.map_append]; exact ks_snoc k
            · have := putK_le kvs (Sum.inr nm) (.bl true); omega
    case cd =>
      rintro H1 ⟨s1, kvs, hnd, hk, hle⟩
      rw [hxs.length, List.take_length] at hk
      refine fun jd njd => ?_
      have nnj : nd ≠ jd := ne_of_none hnd njd
      refine ⟨_, rfl, b, ys, rfl, SqT.of (by rw [upd_ne (ne_of_none (s1.same _ _ hb fun _ z => nomatch z) njd)]; exact s1.same _ _ hb fun _ z => nomatch z), ?_⟩
      have hdn : H jd = none := s1.none njd
      refine for_it (walk_enumT (xs := ys)) (fun i σ H2 => ∃ (pairs : List (Str × Str)) (jks : List (List Key × V)) (v4 v5 v6 v7 : Option V), σ = [some (.ref a), some (.ref b), some (.ref nd), some (.ref jd), v4, v5, v6, v7, none, none] ∧ StayT H H2 ∧ H2 nd = some (.dK kvs) ∧ H2 jd = some (.dT jks) ∧
        KeysAre jks (KP pairs) ∧ jks.length ≤ 2 * i ∧ badRoad 0 (hs.map entryName) [] rs = badRoad i (hs.map entryName) pairs (rs.drop i)) ?h0 ?hG ?hs ?hd
      case h0 => exact ⟨[], [], none, none, none, none, rfl, s1.new njd, by rw [upd_ne nnj]; exact hnd, upd_same, keys_congr keys_nil fun k => by simp [KP], Nat.le_refl _, rfl⟩
      case hG =>
        rintro i σ H2 hi ⟨pairs, jks, v4, v5, v6, v7, rfl, s2, _⟩
        exact SqT.of (s2.same _ _ hb fun _ z => nomatch z)
      case hs =>
        rintro i x σ H2 H3 hi ⟨pairs, jks, v4, v5, v6, v7, rfl, s2, hn2, hj2, hkp, hle2, e⟩ ⟨p, i0, x, rfl, hp, rfl, e0, hx⟩
        cases e0
        obtain ⟨d, _, hdx, hdrop, _⟩ := dvs_at hys hx
        have s3 := s2.new (o := .tup [.int (i : Nat), x]) hp
        have hdx3 := hdx.stay s3
        have hn3 : upd H2 p (.tup [.int (i : Nat), x]) nd = some (.dK kvs) := by rw [upd_ne (ne_of_none hn2 hp)]; exact hn2
        have hj3 : upd H2 p (.tup [.int (i : Nat), x]) jd = some (.dT jks) := by rw [upd_ne (ne_of_none hj2 hp)]; exact hj2
        rw [hdrop] at e
        have hp3 : upd H2 p (.tup [.int (i : Nat), x]) p = some (.tup [.int (i : Nat), x]) := upd_same
        revert s3 hdx3 hn3 hj3 hp3
        generalize L2.upd H2 p (.tup [.int (i : Nat), x]) = H3
        intro s3 hdx3 hn3 hj3 hp3
        refine ⟨p, _, rfl, SqT.of hp3, rfl, _, _, rfl, _, _, rfl, rfl, ?_⟩
        have bad : roadOk (hs.map entryName) pairs d = false → ∀ (D : Ends) (v6 v7 : Option V), D.rt = Q → tRet (tTup (tCons (tC (.str "road")) (tCons (tVar 4) tNil))) D [some (.ref a), some (.ref b), some (.ref nd), some (.ref jd), some (.int (i : Nat)), some x, v6, v7, none, none] H3 := fun z D v6 v7 eD => by
          unfold tRet
          rw [eD]
          refine ⟨_, rfl, by show 2 ≤ sizeLine; decide, fun r hr2 => q _ _ (s3.new hr2) ?_⟩
          have eb : badRoad 0 (hs.map entryName) [] rs = .tuple [.str "road", .int i] := by rw [e]; unfold badRoad; rw [z]; rfl
          rw [eb]
          exact .tup upd_same (.two (.str (by decide +kernel) (by decide +kernel)) (.int _)) (by show 2 ≤ 1000; decide)
        refine ⟨x, rfl, x, d, rfl, hdx3, _, rfl, ?_⟩
        cases etp : isTextPair d with
        | false => exact iteT (bad (roadOk_text etp) _ _ _ rfl)
        | true =>
          obtain ⟨sa, sb, rfl⟩ := textPair_shape etp
          obtain ⟨px, zs, rfl, hpx, hzs, _⟩ := dv_tup hdx3
          cases hzs with
          | @cons v0 vs0 d0 ds0 h0 t0 =>
            cases t0 with
            | @cons v1 vs1 d1 ds1 h1 t1 =>
              cases t1
              cases dv_str h0
              cases dv_str h1
              refine iteF ⟨.ref px, rfl, .ref jd, rfl, jd, _, rfl, DGet.t (k := [Sum.inr sa, Sum.inr sb]) hj3 hpx, _, rfl, ?_⟩
              have okE : roadOk (hs.map entryName) pairs (.tuple [.str sa, .str sb]) = ((decide (sa ∈ hs.map entryName) && decide (sb ∈ hs.map entryName)) && (decide (sa ≠ sb) && (!decide ((sa, sb) ∈ pairs) && !decide ((sb, sa) ∈ pairs)))) := rfl
              by_cases kp : (sa, sb) ∈ pairs ∨ (sb, sa) ∈ pairs
              · have z : (valV jks [Sum.inr sa, Sum.inr sb]).isSome = true := (hkp _).mpr (kp_in.mpr kp)
                rw [z]
                refine iteT (bad ?_ _ _ _ rfl)
                rw [okE]
                rcases kp with kp | kp <;> simp [kp]
              · have z : (valV jks [Sum.inr sa, Sum.inr sb]).isSome = false := by
                  cases zz : (valV jks [Sum.inr sa, Sum.inr sb]).isSome with
                  | false => rfl
                  | true => exact absurd (kp_in.mp ((hkp _).mp zz)) kp
                rw [z]
                refine iteF ⟨.ref px, rfl, px, _, rfl, SqT.of hpx, rfl, _, _, rfl, _, _, rfl, rfl, ?_⟩
                refine ⟨.str sa, rfl, .ref nd, rfl, nd, _, rfl, DGet.k (k := Sum.inr sa) hn3, _, rfl, ?_⟩
                by_cases ka : sa ∈ hs.map entryName
                · have za : (valV kvs (Sum.inr sa)).isSome = true := (hk _).mpr (ks_in.mpr ka)
                  rw [za]
                  refine iteF ⟨.str sb, rfl, .ref nd, rfl, nd, _, rfl, DGet.k (k := Sum.inr sb) hn3, _, rfl, ?_⟩
                  by_cases kb : sb ∈ hs.map entryName
                  · have zb : (valV kvs (Sum.inr sb)).isSome = true := (hk _).mpr (ks_in.mpr kb)
                    rw [zb]
                    refine iteF ⟨.str sa, rfl, .str sb, rfl, rfl, _, rfl, ?_⟩
                    by_cases ne : sa = sb
                    · rw [decide_eq_true (show V.str sa = V.str sb by rw [ne])]
                      refine iteT (bad ?_ _ _ _ rfl)
                      rw [okE]; simp [ne]
                    · rw [decide_eq_false (fun z => ne (V.str.inj z))]
                      have good : roadOk (hs.map entryName) pairs (.tuple [.str sa, .str sb]) = true := by
                        rw [okE]
                        simp only [ka, kb, ne, decide_true, Bool.and_true, ne_eq, not_false_eq_true, Bool.true_and, Bool.and_eq_true, Bool.not_eq_true', decide_eq_false_iff_not]
                        exact ⟨fun z => kp (.inl z), fun z => kp (.inr z)⟩
                      have lt : jks.length + 1 < sizeLine := by
                        have h1 : ys.length = rs.length := hys.length
                        have h3 : jks.length + 1 < 3000 := by omega
                        exact Nat.lt_trans h3 (by decide)
                      refine iteF ⟨.ref jd, rfl, .str sa, rfl, .str sb, rfl, (by show 2 ≤ sizeLine; decide), fun k1 nk1 => ?_⟩
                      have j1 : jd ≠ k1 := ne_of_none hj3 nk1
                      refine ⟨jd, _, rfl, DPut.t (k := [Sum.inr sa, Sum.inr sb]) (by rw [upd_ne j1]; exact hj3) upd_same (by omega), ?_⟩
                      refine ⟨.ref jd, rfl, .str sb, rfl, .str sa, rfl, (by show 2 ≤ sizeLine; decide), fun k2 nk2 => ?_⟩
                      have j2 : jd ≠ k2 := ne_of_none upd_same nk2
                      refine ⟨jd, _, rfl, DPut.t (k := [Sum.inr sb, Sum.inr sa]) (by rw [upd_ne j2]; exact upd_same) upd_same (Nat.lt_of_le_of_lt (putK_le _ _ _) lt), ?_⟩
                      have l1 := putK_le jks [Sum.inr sa, Sum.inr sb] (.bl true)
                      have l2 := putK_le (putK jks [Sum.inr sa, Sum.inr sb] (.bl true)) [Sum.inr sb, Sum.inr sa] (.bl true)
                      have nn1 : nd ≠ k1 := ne_of_none hn3 nk1
                      have nnj3 : nd ≠ jd := nnj
                      have nn2 : nd ≠ k2 := ne_of_none (show upd (upd H3 k1 (.tup [.str sa, .str sb])) jd (.dT (putK jks [Sum.inr sa, Sum.inr sb] (.bl true))) nd = some (.dK kvs) by rw [upd_ne nnj3, upd_ne nn1]; exact hn3) nk2
                      refine ⟨pairs ++ [(sa, sb)], _, _, _, _, _, rfl, (((s3.new nk1).upd hdn).new nk2).upd hdn, ?_, upd_same, keys_congr (keys_put (keys_put hkp [Sum.inr sa, Sum.inr sb] (.bl true)) [Sum.inr sb, Sum.inr sa] (.bl true)) fun k => kp_snoc k, by omega, ?_⟩
                      · rw [upd_ne nnj3, upd_ne nn2, upd_ne nnj3, upd_ne nn1]; exact hn3
                      · rw [e]; conv => lhs; unfold badRoad
                        rw [if_pos good]
                        rfl
                  · have zb : (valV kvs (Sum.inr sb)).isSome = false := by
                      cases zz : (valV kvs (Sum.inr sb)).isSome with
                      | false => rfl
                      | true => exact absurd (ks_in.mp ((hk _).mp zz)) kb
                    rw [zb]
                    refine iteT (bad ?_ _ _ _ rfl)
                    rw [okE]; simp [kb]
                · have za : (valV kvs (Sum.inr sa)).isSome = false := by
                    cases zz : (valV kvs (Sum.inr sa)).isSome with
                    | false => rfl
                    | true => exact absurd (ks_in.mp ((hk _).mp zz)) ka
                  rw [za]
                  refine iteT (bad ?_ _ _ _ rfl)
                  rw [okE]; simp [ka]
      case hd =>
        rintro σ H2 ⟨pairs, jks, v4, v5, v6, v7, rfl, s2, hn2, hj2, hkp, hle2, e⟩
        refine q _ _ s2 ?_
        rw [e, hys.length, List.drop_length]
        exact .non
end
end WR
namespace WR
open PySem PySem.Spec PyProof.Rows L2
section
variable {P : Program} {w : World} {K : PySem.W.Frag} {mg : Str → Option Value} {base : Heap} {f : Addr} {fd : FuncData} {T : Addr}
/-! ### town_wrong -/
abbrev s_town_wrong : Stmt := topS 17
abbrev N_town_wrong : List Str := ["thing", "homes", "roads"]
abbrev P_town_wrong : List Str := ["thing"]
theorem sc_town_wrong : FnScope N_town_wrong P_town_wrong (defScope s_town_wrong) := ⟨rfl, rfl, rfl, by decide +kernel, rfl, by decide +kernel, by decide +kernel⟩

def sp_town_wrong (T : Addr) : Sp := fun vs H Q _ => ∃ v d, vs = [v] ∧ DV H v d ∧ TG T H ∧ ∀ H' r, StayT H H' → DV H' r (townWrong d) → Q r H'
theorem ok_town_wrong (F : FnP K "town_wrong" s_town_wrong f fd) (fr : Free mg) (c_is_pair : Cal P w K mg base "is_pair" 1 P_is_pair sp_is_pair) (c_bad_home : Cal P w K mg base "bad_home" 3 P_bad_home (sp_bad_home T)) (c_bad_road : Cal P w K mg base "bad_road" 3 P_bad_road sp_bad_road) :
    FnOk P w K mg base (L2.CX P w) 4 f fd P_town_wrong (sp_town_wrong T) := by
  refine F.ok sc_town_wrong (fun vs H Q E h => ?_) (fun cdv A outer s H vs Q E hr h => ⟨_, PSs.nox (pss_cons (ps_if (pt_not (pt_val (pe_F c_is_pair (hr.mono (by omega)) (pa_cons (pv 0) pa_nil)))) (pss_one (ps_ret (pe_tup (pa_cons pe_str pa_nil)))) pss_nil)
    (pss_cons (ps_asg (pv 0) (pg_tup rfl (pgs_cons (pg_name (i := 1) sc_town_wrong.nd rfl (Or.inl rfl)) (pgs_cons (pg_name (i := 2) sc_town_wrong.nd rfl (Or.inl rfl)) pgs_nil))))
    (pss_cons (ps_if (PW.pt (pw_or (pt_not (pt_val (pe_callB call_isD (by rfl) (fr "isinstance" (by decide)) (by decide +kernel) (pa_cons (pv 1) (pa_cons (pe_ty (n := "tuple") fr) pa_nil))))) (pw_or (pt_not (pt_val (pe_callB call_isD (by rfl) (fr "isinstance" (by decide)) (by decide +kernel) (pa_cons (pv 2) (pa_cons (pe_ty (n := "tuple") fr) pa_nil))))) (pw_or1 (pt_cmpR (op_eqU hr.units0) (pv 1) (pe_tup pa_nil) (nomark _)))))) (pss_one (ps_ret (pe_tup (pa_cons pe_str pa_nil)))) pss_nil)
    (pss_one (ps_ret (pe_orT (pe_F c_bad_home (hr.mono (by omega)) (pa_cons (pv 1) pa_nil)) (pe_one (pe_F c_bad_road (hr.mono (by omega)) (pa_cons (pv 1) (pa_cons (pv 2) pa_nil)))))))))), ?_⟩)
  · obtain ⟨v, d, rfl, _⟩ := h; rfl
  · obtain ⟨v, d, rfl, hd, tg, q⟩ := h
    have no : (∀ e l rs, d ≠ .tuple [.tuple (e :: l), .tuple rs]) → ∀ (D : Ends) (σ : L2.St) (H1 : Hp), StayT H H1 → D.rt = Q → tRet (tTup (tCons (tC (.str "town")) tNil)) D σ H1 := fun z D σ H1 s1 eD => by
      unfold tRet
      rw [eD]
      refine ⟨by show 1 ≤ sizeLine; decide, fun r hr2 => q _ _ (s1.new hr2) ?_⟩
      rw [town_not z]
      exact .tup upd_same (.one (.str (by decide +kernel) (by decide +kernel))) (by show 1 ≤ 1000; decide)
    refine ⟨v, rfl, v, d, rfl, hd, _, rfl, ?_⟩
    rcases pair_cases d with ⟨a, b, rfl⟩ | ⟨z, _, _⟩
    · obtain ⟨p, zs, rfl, hp, hzs, _⟩ := dv_tup hd
      cases hzs with
      | @cons va vs0 d0 ds0 ha t0 =>
        cases t0 with
        | @cons vb vs1 d1 ds1 hb t1 =>
          cases t1
          refine iteF ⟨.ref p, rfl, p, _, rfl, SqT.of hp, rfl, _, _, rfl, _, _, rfl, rfl, ?_⟩
          refine ⟨va, rfl, va, "tuple", a, rfl, ha, .inr (.inr (.inr rfl)), _, rfl, ?_⟩
          cases ea : isD "tuple" a with
          | false => exact iteT (no (fun e l rs z => by cases z; cases ea) _ _ _ (StayT.refl H) rfl)
          | true =>
            refine iteF ⟨vb, rfl, vb, "tuple", b, rfl, hb, .inr (.inr (.inr rfl)), _, rfl, ?_⟩
            cases eb : isD "tuple" b with
            | false => exact iteT (no (fun e l rs z => by cases z; cases eb) _ _ _ (StayT.refl H) rfl)
            | true =>
              obtain ⟨la, rfl⟩ := isD_tuple ea
              obtain ⟨lb, rfl⟩ := isD_tuple eb
              refine iteF ⟨va, rfl, (by show 0 ≤ sizeLine; decide), fun u nu => ?_⟩
              have su := (StayT.refl H).new (o := .tup []) nu
              refine ⟨.tuple la, u, ha.stay su, rfl, upd_same, _, rfl, ?_⟩
              cases la with
              | nil => exact iteT (no (fun e l rs z => by cases z) _ _ _ su rfl)
              | cons e l =>
                refine iteF ⟨va, rfl, va, e :: l, rfl, ha.stay su, su.tabG tg, fun H1 r s1 hr1 => ?_⟩
                have s2 := su.trans s1
                rcases bad_shape (e :: l) 0 [] with z | ⟨i, z⟩
                · rw [z] at hr1
                  cases hr1
                  refine ⟨false, rfl, iteF ?_⟩
                  refine ⟨va, rfl, vb, rfl, va, e :: l, vb, lb, rfl, ha.stay s2, badHome_none _ _ _ z, hb.stay s2, fun H2 r2 s3 hr2 => q _ _ (s2.trans s3) ?_⟩
                  have et : townWrong (.tuple [.tuple (e :: l), .tuple lb]) = badRoad 0 ((e :: l).map entryName) [] lb := by
                    show orElse (badHome 0 [] (e :: l)) (badRoad 0 ((e :: l).map entryName) [] lb) = _; rw [z]; rfl
                  rw [et]
                  exact hr2
                · rw [z] at hr1
                  obtain ⟨pr, xr, rfl, hpr, hxr, _⟩ := dv_tup hr1
                  refine ⟨true, .inr (.inl ⟨xr, SqT.of hpr, ?_⟩), iteT (q _ _ s2 ?_)⟩
                  · cases hxr with
                    | cons _ _ => rfl
                  · have et : townWrong (.tuple [.tuple (e :: l), .tuple lb]) = .tuple [.str "home", .int i] := by
                      show orElse (badHome 0 [] (e :: l)) (badRoad 0 ((e :: l).map entryName) [] lb) = _; rw [z]; rfl
                    rw [et]
                    exact hr1
    · rw [z]
      exact iteT (no (fun e l rs y => by rw [y] at z; cases z) _ _ _ (StayT.refl H) rfl)
/-! ### what is raised -/
def RaisesF (C : Addr) (f : Str) (d : PyData) (H : Hp) (E : XK) : Prop := ∀ H' dd r, StayT H H' → H' dd = some (.xd [(f, r)]) → DV H' r d → E (.ref C) (some dd) H'
/-! ### check_town -/
abbrev s_check_town : Stmt := topS 18
abbrev N_check_town : List Str := ["town", "wrong"]
abbrev P_check_town : List Str := ["town"]
theorem sc_check_town : FnScope N_check_town P_check_town (defScope s_check_town) := ⟨rfl, rfl, rfl, by decide +kernel, rfl, by decide +kernel, by decide +kernel⟩

def sp_check_town (T CT : Addr) : Sp := fun vs H Q E => ∃ v d, vs = [v] ∧ DV H v d ∧ TG T H ∧ (townWrong d = .none → ∀ H', StayT H H' → Q .non H') ∧ (townWrong d ≠ .none → RaisesF CT "wrong" (townWrong d) H E)
theorem ok_check_town {CT : Addr} (F : FnP K "check_town" s_check_town f fd) (fr : Free mg) (c_town_wrong : Cal P w K mg base "town_wrong" 4 P_town_wrong (sp_town_wrong T)) (x_NoTown : ExcF P w K mg base "NoTown" "wrong" CT) :
    FnOk P w K mg base (L2.CX P w) 5 f fd P_check_town (sp_check_town T CT) := by
  refine F.ok sc_check_town (fun vs H Q E h => ?_) (fun cdv A outer s H vs Q E hr h => ⟨_, (pss_cons (ps_set (i := 1) sc_check_town.nd rfl (Or.inl rfl) (pe_F c_town_wrong (hr.mono (by omega)) (pa_cons (pv 0) pa_nil)))
    (pss_one (ps_if (pt_cmpR op_notN (pv 1) pe_non (nomark _)) (pss_one (ps_raise rfl (takes_of (E := E) rfl rfl rfl rfl) (pmk_1 x_NoTown (hr.mono (by omega)) (pv 1)))) pss_nil))), ?_⟩)
  · obtain ⟨v, d, rfl, _⟩ := h; rfl
  · obtain ⟨v, d, rfl, hd, tg, q, x⟩ := h
    refine ⟨v, rfl, v, d, rfl, hd, tg, fun H1 r s1 hr1 => ?_⟩
    refine ⟨r, rfl, rfl, _, rfl, ?_⟩
    by_cases z : townWrong d = .none
    · rw [z] at hr1
      cases hr1
      exact iteF (q z _ s1)
    · have nr : r ≠ .non := fun e => by
        rw [e] at hr1
        cases hh : townWrong d with
        | none => exact z hh
        | _ => rw [hh] at hr1; cases hr1
      rw [decide_eq_false nr]
      refine iteT ⟨r, rfl, made1 fun d2 hd2 => x z _ _ _ (s1.new hd2) upd_same (hr1.stay ((StayT.refl H1).new hd2))⟩
end
end WR
namespace WR
open PySem PySem.Spec PyProof.Rows L2
section
variable {P : Program} {w : World} {K : PySem.W.Frag} {mg : Str → Option Value} {base : Heap} {f : Addr} {fd : FuncData} {T : Addr}
/-! ### standing_wrong -/
abbrev s_standing_wrong : Stmt := topS 19
abbrev N_standing_wrong : List Str := ["town", "thing", "hands", "k", "there"]
abbrev P_standing_wrong : List Str := ["town", "thing"]
theorem sc_standing_wrong : FnScope N_standing_wrong P_standing_wrong (defScope s_standing_wrong) := ⟨rfl, rfl, rfl, by decide +kernel, rfl, by decide +kernel, by decide +kernel⟩

def sp_standing_wrong (T CT : Addr) : Sp := fun vs H Q E => ∃ v d v2 d2, vs = [v, v2] ∧ DV H v d ∧ DV H v2 d2 ∧ TG T H ∧ (townWrong d = .none → ∀ H' r, StayT H H' → DV H' r (standingWrong d d2) → Q r H') ∧ (townWrong d ≠ .none → RaisesF CT "wrong" (townWrong d) H E)
theorem ok_standing_wrong {CT : Addr} (F : FnP K "standing_wrong" s_standing_wrong f fd) (fr : Free mg) (c_check_town : Cal P w K mg base "check_town" 5 P_check_town (sp_check_town T CT)) (c_is_entry : Cal P w K mg base "is_entry" 2 P_is_entry (sp_is_entry T)) :
    FnOk P w K mg base (L2.CX P w) 6 f fd P_standing_wrong (sp_standing_wrong T CT) := by
  refine F.ok sc_standing_wrong (fun vs H Q E h => ?_) (fun cdv A outer s H vs Q E hr h => ⟨_, (pss_cons (ps_expr (pe_X (W := fun cls d _ H => E cls d H) c_check_town (hr.mono (by omega)) (takes_of (E := E) rfl rfl rfl rfl) (pa_cons (pv 0) pa_nil)))
    (pss_cons (ps_if (PW.pt (pw_or (pt_not (pt_val (pe_callB call_isD (by rfl) (fr "isinstance" (by decide)) (by decide +kernel) (pa_cons (pv 1) (pa_cons (pe_ty (n := "tuple") fr) pa_nil))))) (pw_or1 (pt_cmpR op_ne (pe_callB call_lenD' (by rfl) (fr "len" (by decide)) (by decide +kernel) (pa_cons (pv 1) pa_nil)) (pe_callB call_lenD' (by rfl) (fr "len" (by decide)) (by decide +kernel) (pa_cons (pe_ix ix_D (pv 0) pe_int (fun _ _ => rfl)) pa_nil)) (nomark _))))) (pss_one (ps_ret (pe_tup (pa_cons pe_str pa_nil)))) pss_nil)
    (pss_cons (ps_set (i := 2) sc_standing_wrong.nd rfl (Or.inl rfl) pe_dnewK)
    (pss_cons (ps_for (passes_of rfl) rfl (pi_enumT rfl (fr "enumerate" (by decide)) (pa_cons (pv 1) pa_nil)) (pg_tup rfl (pgs_cons (pg_name (i := 3) sc_standing_wrong.nd rfl (Or.inl rfl)) (pgs_cons (pg_name (i := 4) sc_standing_wrong.nd rfl (Or.inl rfl)) pgs_nil))) (pss_cons (ps_if (pt_cmpR (op_eqU hr.units0) (pv 4) (pe_tup pa_nil) (nomark _)) (pss_one ps_continue) pss_nil)
    (pss_cons (ps_if (PW.pt (pw_or (pt_not (pt_val (pe_F c_is_entry (hr.mono (by omega)) (pa_cons (pv 4) pa_nil)))) (pw_or1 (pt_cmp (pc_din (hu_of hr) (pe_ix ix_D (pv 4) pe_int (fun _ _ => rfl)) (pv 2)))))) (pss_one (ps_ret (pe_tup (pa_cons pe_str (pa_cons (pv 3) pa_nil))))) pss_nil)
    (pss_one (ps_dput (hu_of hr) (pv 2) (pe_ix ix_D (pv 4) pe_int (fun _ _ => rfl)) pe_bl rfl)))))
    (pss_one (ps_ret pe_non)))))), ?_⟩)
  · obtain ⟨v, d, v2, d2, rfl, _⟩ := h; rfl
  · obtain ⟨v, d, v2, d2, rfl, hd, hd2, tg, q, x⟩ := h
    refine ⟨v, rfl, v, d, rfl, hd, tg, fun tw H1 s1 => ?_, x⟩
    obtain ⟨e0, l0, rs, rfl, hbh, hbr⟩ := town_shape tw
    have hd1 := hd.stay s1
    have hv1 := hd2.stay s1
    have ret0 : standingWrong (.tuple [.tuple (e0 :: l0), .tuple rs]) d2 = .tuple [.str "standing"] → ∀ (D : Ends) (σ : L2.St), D.rt = Q → tRet (tTup (tCons (tC (.str "standing")) tNil)) D σ H1 := fun z D σ eD => by
      unfold tRet
      rw [eD]
      refine ⟨by show 1 ≤ sizeLine; decide, fun r hr2 => q tw _ _ (s1.new hr2) ?_⟩
      rw [z]
      exact .tup upd_same (.one (.str (by decide +kernel) (by decide +kernel))) (by show 1 ≤ 1000; decide)
    refine ⟨v2, rfl, v2, "tuple", d2, rfl, hv1, .inr (.inr (.inr rfl)), _, rfl, ?_⟩
    cases ha : isD "tuple" d2 with
    | false => exact iteT (ret0 (by cases d2 <;> first | rfl | cases ha) _ _ rfl)
    | true =>
      obtain ⟨l, rfl⟩ := isD_tuple ha
      refine iteF ⟨v2, rfl, v2, _, _, rfl, hv1, rfl, ?_⟩
      refine ⟨v, rfl, _, _, 0, hd1, rfl, rfl, fun vh hh => ⟨vh, _, _, rfl, hh, rfl, ?_⟩⟩
      refine ⟨rfl, _, rfl, ?_⟩
      by_cases len : l.length = (e0 :: l0).length
      case neg =>
        have zz : (!decide (V.int (l.length : Nat) = V.int ((e0 :: l0).length : Nat))) = true := by
          have z : ¬ V.int (l.length : Nat) = V.int ((e0 :: l0).length : Nat) := fun z => len (by injection z with z; omega)
          rw [decide_eq_false z]; rfl
        rw [zz]; exact iteT (ret0 (if_neg len) _ _ rfl)
      have zz : (!decide (V.int (l.length : Nat) = V.int ((e0 :: l0).length : Nat))) = false := by
        rw [len, decide_eq_true rfl]; rfl
      rw [zz]; refine iteF ?_
      have ew : standingWrong (.tuple [.tuple (e0 :: l0), .tuple rs]) (.tuple l) = badHand 0 [] l := if_pos len
      rw [ew] at q
      obtain ⟨a, xs, rfl, ha, hxs, hl⟩ := dv_tup hd2
      have ha1 := s1.same _ _ ha fun _ z => nomatch z
      refine fun dn ndn => ⟨_, rfl, a, xs, rfl, SqT.of (by rw [upd_ne (ne_of_none ha1 ndn)]; exact ha1), ?_⟩
      refine for_it (walk_enumT (xs := xs)) (fun i σ H2 => ∃ (seen : List Str) (kvs : List (Key × V)) (w3 w4 : Option V), σ = [some v, some (.ref a), some (.ref dn), w3, w4] ∧ StayT H1 H2 ∧ H2 dn = some (.dK kvs) ∧ KeysAre kvs (KS seen) ∧ kvs.length ≤ i ∧
          badHand 0 [] l = badHand i seen (l.drop i)) ?h0 ?hG ?hs ?hd
      case h0 => exact ⟨[], [], none, none, rfl, (StayT.refl H1).new ndn, upd_same, keys_congr keys_nil fun k => by simp [KS], Nat.le_refl _, rfl⟩
      case hG =>
        rintro i σ H2 hi ⟨seen, kvs, w3, w4, rfl, s2, hdn, hk, hle, e⟩
        exact SqT.of (s2.same _ _ ha1 fun _ z => nomatch z)
      case hs =>
        rintro i x σ H2 H3 hi ⟨seen, kvs, w3, w4, rfl, s2, hdn, hk, hle, e⟩ ⟨p, i0, y, rfl, hp, rfl, e0, hx⟩
        cases e0
        obtain ⟨d, _, hdx, hdrop, _⟩ := dvs_at (hxs.stay s1) hx
        have s3 := s2.new (o := .tup [.int (i : Nat), y]) hp
        have tg2 := s3.tabG (s1.tabG tg)
        have hdx2 := hdx.stay s3
        refine ⟨p, _, rfl, SqT.of upd_same, rfl, _, _, rfl, _, _, rfl, rfl, ?_⟩
        rw [hdrop] at e
        have hdn3 : upd H2 p (.tup [.int (i : Nat), y]) dn = some (.dK kvs) := by rw [upd_ne (ne_of_none hdn hp)]; exact hdn
        refine ⟨y, rfl, (by show 0 ≤ sizeLine; decide), fun u nu => ?_⟩
        have s4 := s3.new (o := .tup []) nu
        have hdn4 := hdn3
        have hdn4 : upd (upd H2 p (.tup [.int (i : Nat), y])) u (.tup []) dn = some (.dK kvs) := by rw [upd_ne (ne_of_none hdn3 nu)]; exact hdn3
        have hdx4 := hdx.stay s4
        have tg4 := s4.tabG (s1.tabG tg)
        refine ⟨d, u, hdx4, rfl, upd_same, _, rfl, ?_⟩
        cases hu : isUnit d with
        | true =>
          refine iteT ⟨seen, kvs, _, _, rfl, s4, hdn4, hk, by omega, ?_⟩
          rw [e]; conv => lhs; unfold badHand
          rw [if_pos (by simp [handOk, hu]), if_pos hu]
        | false =>
        refine iteF ⟨y, rfl, y, d, rfl, hdx4, tg4, fun H5 s5 => ⟨_, rfl, ?_⟩⟩
        have s15 := s4.trans s5
        have hdx5 := hdx.stay s15
        have hdn5 : H5 dn = some (.dK kvs) := s5.same _ _ hdn4 fun _ z => nomatch z
        have bad : homeOk seen d = false → badHand 0 [] l = .tuple [.str "hand", .int i] := fun z => by
          rw [e]; unfold badHand; simp [handOk, hu, z]
        have ret : homeOk seen d = false → ∀ D : Ends, D.rt = Q → tRet (tTup (tCons (tC (.str "hand")) (tCons (tVar 3) tNil))) D [some v, some (.ref a), some (.ref dn), some (.int (i : Nat)), some y] H5 := fun z D eD => by
          unfold tRet
          rw [eD]
          refine ⟨_, rfl, by show 2 ≤ sizeLine; decide, fun r hr2 => q tw _ _ ((s1.trans s15).new hr2) ?_⟩
          rw [bad z]
          exact .tup upd_same (.two (.str (by decide +kernel) (by decide +kernel)) (.int _)) (by show 2 ≤ 1000; decide)
        cases en : isEntry d with
        | false =>
          refine iteT ?_
          exact ret (by simp [homeOk, en]) _ rfl
        | true =>
          refine iteF ?_
          obtain ⟨nm, w0, rfl, _, _⟩ := entry_shape en
          refine ⟨y, rfl, .tuple [.str nm, .int w0], .str nm, 0, hdx5, rfl, rfl, fun vn hn => ?_⟩
          cases dv_str hn
          refine ⟨.ref dn, rfl, dn, _, rfl, DGet.k (k := Sum.inr nm) hdn5, _, rfl, ?_⟩
          by_cases ins : nm ∈ seen
          · have z : (valV kvs (Sum.inr nm)).isSome = true := (hk _).mpr (ks_in.mpr ins)
            rw [z]
            exact iteT (ret (by simp [homeOk, en, entryName, ins]) _ rfl)
          · have z : (valV kvs (Sum.inr nm)).isSome = false := by
              cases zz : (valV kvs (Sum.inr nm)).isSome with
              | false => rfl
              | true => exact absurd (ks_in.mp ((hk _).mp zz)) ins
            rw [z]
            refine iteF ⟨.ref dn, rfl, y, rfl, .tuple [.str nm, .int w0], .str nm, 0, hdx5, rfl, rfl, fun vn2 hn2 => ?_⟩
            cases dv_str hn2
            have hlt : kvs.length < sizeLine := by
              have h1 : xs.length = l.length := hxs.length
              have h2 : kvs.length < 1000 := by omega
              exact Nat.lt_trans h2 (by decide)
            refine ⟨dn, _, rfl, DPut.k (k := Sum.inr nm) hdn5 hlt, ?_⟩
            refine ⟨seen ++ [nm], _, _, _, rfl, s15.upd ndn, upd_same, keys_congr (keys_put hk (Sum.inr nm) (.bl true)) fun k => ks_snoc k, ?_, ?_⟩
            · have := putK_le kvs (Sum.inr nm) (.bl true); omega
            · rw [e]; conv => lhs; unfold badHand
              rw [if_pos (by simp [handOk, homeOk, en, entryName, ins]), if_neg (by rw [hu]; decide)]
              rfl
      case hd =>
        rintro σ H2 ⟨seen, kvs, w3, w4, rfl, s2, hdn, hk, hle, e⟩
        refine q tw _ _ (s1.trans s2) ?_
        rw [e, hxs.length, List.drop_length]
        exact .non
/-! ### check_standing -/
abbrev s_check_standing : Stmt := topS 20
abbrev N_check_standing : List Str := ["town", "standing", "wrong"]
abbrev P_check_standing : List Str := ["town", "standing"]
theorem sc_check_standing : FnScope N_check_standing P_check_standing (defScope s_check_standing) := ⟨rfl, rfl, rfl, by decide +kernel, rfl, by decide +kernel, by decide +kernel⟩

def sp_check_standing (T CT CS : Addr) : Sp := fun vs H Q E => ∃ v d v2 d2, vs = [v, v2] ∧ DV H v d ∧ DV H v2 d2 ∧ TG T H ∧ (townWrong d = .none → standingWrong d d2 = .none → ∀ H', StayT H H' → Q .non H') ∧ (townWrong d ≠ .none → RaisesF CT "wrong" (townWrong d) H E) ∧ (townWrong d = .none → standingWrong d d2 ≠ .none → RaisesF CS "wrong" (standingWrong d d2) H E)
theorem ok_check_standing {CT CS : Addr} (F : FnP K "check_standing" s_check_standing f fd) (fr : Free mg) (c_standing_wrong : Cal P w K mg base "standing_wrong" 6 P_standing_wrong (sp_standing_wrong T CT)) (x_NoStanding : ExcF P w K mg base "NoStanding" "wrong" CS) :
    FnOk P w K mg base (L2.CX P w) 7 f fd P_check_standing (sp_check_standing T CT CS) := by
  refine F.ok sc_check_standing (fun vs H Q E h => ?_) (fun cdv A outer s H vs Q E hr h => ⟨_, (pss_cons (ps_set (i := 2) sc_check_standing.nd rfl (Or.inl rfl) (pe_X (W := fun cls d _ H => E cls d H) c_standing_wrong (hr.mono (by omega)) (takes_of (E := E) rfl rfl rfl rfl) (pa_cons (pv 0) (pa_cons (pv 1) pa_nil))))
    (pss_one (ps_if (pt_cmpR op_notN (pv 2) pe_non (nomark _)) (pss_one (ps_raise rfl (takes_of (E := E) rfl rfl rfl rfl) (pmk_1 x_NoStanding (hr.mono (by omega)) (pv 2)))) pss_nil))), ?_⟩)
  · obtain ⟨v, d, v2, d2, rfl, _⟩ := h; rfl
  · obtain ⟨v, d, v2, d2, rfl, hd, hd2, tg, q, x1, x2⟩ := h
    refine ⟨v, rfl, v2, rfl, v, d, v2, d2, rfl, hd, hd2, tg, fun tw H1 r s1 hr1 => ?_, x1⟩
    refine ⟨r, rfl, rfl, _, rfl, ?_⟩
    by_cases z : standingWrong d d2 = .none
    · rw [z] at hr1
      cases hr1
      exact iteF (q tw z _ s1)
    · have nr : r ≠ .non := fun e => by
        rw [e] at hr1
        cases hh : standingWrong d d2 with
        | none => exact z hh
        | _ => rw [hh] at hr1; cases hr1
      rw [decide_eq_false nr]
      refine iteT ⟨r, rfl, made1 fun dd hdd => x2 tw z _ _ _ (s1.new hdd) upd_same (hr1.stay ((StayT.refl H1).new hdd))⟩
end
end WR
namespace WR
open PySem PySem.Spec PyProof.Rows L2
/-! ## {k: v for x in ..} over any walk -/
theorem dc_it {J : It} {n : Nat} {G : Hp → Prop} {Y : Nat → Hp → V → Hp → Prop} (wk : L2.Walk J n G Y) {g : L2.TG} {tt : TT} {tk tv : TE} {vs : List Nat} {σ : L2.St} {H1 : Hp} {D : Addr} {Qd : Hp → Prop} (Pv : Nat → Hp → Prop) (h0 : Pv 0 (upd H1 D (.dK []))) (hG : ∀ i H, i ≤ n → Pv i H → G H)
    (hs : ∀ i x H H', i < n → Pv i H → Y i H x H' → g x (wipe σ vs) H' fun σ2 H2 => wipe σ2 vs = wipe σ vs ∧ tt σ2 H2 fun b H3 => if b = true then tk σ2 H3 fun y H4 => tv σ2 H4 fun z H5 => ∃ (kvs : List (Key × V)) (k : Key), y = kV k ∧ H5 D = some (.dK kvs) ∧ kvs.length < sizeLine ∧ Pv (i + 1) (upd H5 D (.dK (putK kvs k z))) else Pv (i + 1) H3)
    (hd : ∀ H, Pv n H → Qd H) :
    ∃ W : Nat → Nat → Hp → Prop, (∃ m, W 0 m (upd H1 D (.dK []))) ∧ ∀ i m H, W i m H → J.stop i H ∧ Qd H ∨ J.go i H ∧ ∃ Nx : Hp → Prop, (∀ H', Nx H' → ∃ m', m' < m ∧ W (i + 1) m' H') ∧
      ∀ x H', J.yld i H x H' → g x (wipe σ vs) H' fun σ2 H2 => wipe σ2 vs = wipe σ vs ∧ tt σ2 H2 fun b H3 => if b = true then tk σ2 H3 fun y H4 => tv σ2 H4 fun z H5 => ∃ (kvs : List (Key × V)) (k : Key), y = kV k ∧ H5 D = some (.dK kvs) ∧ kvs.length < sizeLine ∧ Nx (upd H5 D (.dK (putK kvs k z))) else Nx H3 := by
  refine ⟨fun i m H => i + m = n ∧ Pv i H, ⟨n, by simp, h0⟩, fun i m H ⟨e, p⟩ => ?_⟩
  by_cases hi : i < n
  · exact .inr ⟨wk.goes i H hi (hG i H (by omega) p), Pv (i + 1), fun H' q => ⟨m - 1, by omega, by omega, q⟩, fun x H' y => hs i x H H' hi p (wk.yields i H x H' hi (hG i H (by omega) p) y)⟩
  · have hn : i = n := by omega
    subst hn
    exact .inl ⟨wk.stops H (hG i H (Nat.le_refl _) p), hd H p⟩
end WR
namespace WR
open PySem PySem.Spec PyProof.Rows L2
open PySem.SeqAt
/-! ## xs == [], xs != [], t != (), whatever stands in them -/
def rEqL (neg : Bool) : R2 := fun x y H Q => ∃ (a b : Addr) (xs : List V), x = .ref a ∧ y = .ref b ∧ H a = some (.lst xs) ∧ H b = some (.lst []) ∧ Q (.bl (if neg then !xs.isEmpty else xs.isEmpty)) H
theorem op_eqL {X : Cx} (hu : X.A.units < cLine) : OpR X (compareOp .Eq) (rEqL false) := by
  intro pins s σ H x y v u Q I rx ry h
  obtain ⟨a, b, xs, rfl, rfl, ha, hb, q⟩ := h
  cases (show v = Value.ref a from rx)
  cases (show u = Value.ref b from ry)
  obtain ⟨its, rv, ⟨o, n, ho, hc, _, hdat⟩, _⟩ := I.list (SqL.of ha)
  obtain ⟨its2, rv2, ⟨o2, n2, ho2, hc2, _, hdat2⟩, _⟩ := I.list (SqL.of hb)
  cases rv2
  have la : s.heap.IsList a its.toArray := ⟨o, ho, hc, n, hdat⟩
  have lb : s.heap.IsList b #[] := ⟨o2, ho2, hc2, n2, hdat2⟩
  cases rv with
  | nil => exact (RcAt.lists (e := fun _ => true) la lb rfl hu (fun j h1 _ => absurd h1 (by simp))) X.prog X.w X.xe _ ⟨.bl true, H, I, rfl, q⟩
  | cons _ _ => exact (RcAt.lists_lengths la lb (by simp) hu) X.prog X.w X.xe _ ⟨.bl false, H, I, rfl, q⟩
theorem op_neL {X : Cx} (hu : X.A.units < cLine) : OpR X (compareOp .NotEq) (rEqL true) := by
  intro pins s σ H x y v u Q I rx ry h
  obtain ⟨a, b, xs, rfl, rfl, ha, hb, q⟩ := h
  cases (show v = Value.ref a from rx)
  cases (show u = Value.ref b from ry)
  obtain ⟨its, rv, ⟨o, n, ho, hc, _, hdat⟩, _⟩ := I.list (SqL.of ha)
  obtain ⟨its2, rv2, ⟨o2, n2, ho2, hc2, _, hdat2⟩, _⟩ := I.list (SqL.of hb)
  cases rv2
  have la : s.heap.IsList a its.toArray := ⟨o, ho, hc, n, hdat⟩
  have lb : s.heap.IsList b #[] := ⟨o2, ho2, hc2, n2, hdat2⟩
  cases rv with
  | nil => exact (RcNeAt.lists (e := fun _ => true) la lb rfl hu (fun j h1 _ => absurd h1 (by simp))) X.prog X.w X.xe _ ⟨.bl false, H, I, rfl, q⟩
  | cons _ _ => exact (RcNeAt.lists_lengths la lb (by simp) hu) X.prog X.w X.xe _ ⟨.bl true, H, I, rfl, q⟩
def rNeU : R2 := fun x y H Q => ∃ (a b : Addr) (xs : List V), x = .ref a ∧ y = .ref b ∧ H a = some (.tup xs) ∧ H b = some (.tup []) ∧ Q (.bl (!xs.isEmpty)) H
theorem op_neU {X : Cx} (hu : X.A.units < cLine) : OpR X (compareOp .NotEq) rNeU := by
  intro pins s σ H x y v u Q I rx ry h
  obtain ⟨a, b, xs, rfl, rfl, ha, hb, q⟩ := h
  cases (show v = Value.ref a from rx)
  cases (show u = Value.ref b from ry)
  obtain ⟨its, rv, pt, _⟩ := I.tuple (SqT.of ha)
  obtain ⟨its2, rv2, pt2, _⟩ := I.tuple (SqT.of hb)
  cases rv2
  have r := RcNeAt.tuples (e := fun _ => true) pt pt2 hu (fun j _ h2 => absurd h2 (by simp))
  cases rv with
  | nil => exact r X.prog X.w X.xe _ ⟨.bl false, H, I, rfl, q⟩
  | cons _ _ => exact r X.prog X.w X.xe _ ⟨.bl true, H, I, rfl, q⟩
end WR
namespace WR
open PySem PySem.Spec PyProof.Rows L2
/-! ## t[::-1], t a tuple of two -/
theorem sliceApplied_rev {prog : Program} {w : World} {A : Around} {E : Value → Shared → Prop} {s : Shared} {sl : Addr} {vs : Value} {Q : Int × Int × Nat → Shared → Prop} (hs : s.heap.IsSliceOf sl .none .none vs) (ps : IsPart vs (some (-1)))
    (h : Q (1, -1, 2) s) : wpAny (model prog w) A (Builtin.Slice.sliceApplied (.ref sl) (pure 2)) Q E s := by
  obtain ⟨os, hos, hcs, hds⟩ := hs
  unfold Builtin.Slice.sliceApplied Builtin.Slice.sliceFields
  refine wpAny_bind (wpAny_bind (wpAny_field hos hds rfl (wpAny_bind (wpAny_field hos hds rfl (wpAny_bind (wpAny_field hos hds rfl (wpAny_pure ?_)))))))
  refine wpAny_bind (HT.slicePart_ ps ?_)
  rw [if_neg (by decide)]
  refine wpAny_bind (PyProof.Rows.slicePart_none (wpAny_bind (PyProof.Rows.slicePart_none (wpAny_bind (wpAny_pure ?_)))))
  exact wpAny_pure h
theorem getItem_rev2 {prog : Program} {w : World} {A : Around} {E : Value → Shared → Prop} {s : Shared} {t sl : Addr} {x y vs : Value} {Q : Value → Shared → Prop} (ht : PyProof.Rows.IsTup s.heap t #[x, y]) (hs : s.heap.IsSliceOf sl .none .none vs) (ps : IsPart vs (some (-1)))
    (h : Q (.ref s.heap.objs.size) { heap := s.heap.push { cls := .type "tuple", data := .seq #[y, x] }, gens := s.gens, drawn := s.drawn, toks := s.toks, os := s.os }) : wpAny (model prog w) A (getItem (.ref t) (.ref sl)) Q E s := by
  have hTs : s.TypeIs (.ref sl) "slice" := by
    obtain ⟨os, hos, hcs, hds⟩ := hs
    exact ⟨os, hos, hcs⟩
  refine wpAny_holding (wpAny_bind (wpAny_sequenceKey ht.typeIs (by decide) (wpAny_bind (wpAny_callSpecial?_slot ht.typeIs PyProof.Rows.slot_tuple_getitem (wpAny_call_entry PyProof.Rows.slot_tuple_getitem ht.typeIs PyProof.Rows.entry_tuple_getitem ?_ (PyProof.Rows.args_tuple_getitem ..))))))
  refine wpAny_bind (show wpAny _ _ (pure ((Value.ref t), [Value.ref sl])) _ _ _ from wpAny_pure ?_)
  refine wpAny_bind (PyProof.Rows.tupleItemsOf_ ht (wpAny_bind (wpAny_typeOf hTs ?_)))
  rw [if_pos (by decide)]
  refine wpAny_bind (sliceApplied_rev hs ps ?_)
  refine wpAny_bind (wpAny_newObj_type ?_ (by show 2 ≤ sizeLine; decide))
  exact wpAny_pure ⟨_, rfl, wpAny_pure h⟩
def tRevT (K : PySem.W.Frag) (te : TE) : TE := fun σ H Q => te σ H fun x H1 => ∃ (a : Addr) (u v : V), x = .ref a ∧ SqT K H1 a [u, v] ∧ ∀ p, H1 p = none → Q (.ref p) (upd H1 p (.tup [v, u]))
theorem pe_revT {X : Cx} {e : Expr} {te : TE} {k : Nat} {p1 p2 p3 pos : Pos} (he : PE X e te) : PE X (.Subscript e (.Slice none none (some (.UnaryOp .USub (.Constant (.int 1) k p1) p2)) p3) pos) (tRevT X.K te) := by
  constructor
  intro pins s σ H Q I h
  refine PyProof.Rows.Subscript_ (thn (he.run pins s σ H _ I h) fun v s1 z => ?_)
  obtain ⟨x, H1, I1, r1, a, u, v2, rfl, hx, q⟩ := z
  cases (show v = Value.ref a from r1)
  have hst : PO X (some (.UnaryOp .USub (.Constant (.int 1) k p1) p2)) _ := po_some (pe_un un_neg pe_int)
  refine wpAny_Slice (thn (po_none.run pins s1 σ H1 (fun o H2 => o = none ∧ H2 = H1) I1 ⟨rfl, rfl⟩) fun vl s2 z => ?_)
  obtain ⟨l, H2, I2, pl, rfl, rfl⟩ := z
  refine thn (po_none.run pins s2 σ H2 (fun o H3 => o = none ∧ H3 = H2) I2 ⟨rfl, rfl⟩) fun vu s3 z => ?_
  obtain ⟨l3, H3, I3, pu, rfl, rfl⟩ := z
  refine thn (hst.run pins s3 σ H3 (fun o H4 => o = some (-1) ∧ H4 = H3) I3 ?_) fun vs s4 z => ?_
  · exact ⟨_, rfl, _, rfl, rfl, rfl⟩
  obtain ⟨l4, H4, I4, ps, rfl, rfl⟩ := z
  cases pl
  cases pu
  obtain ⟨its, rv, pt, _⟩ := I4.tuple hx
  obtain ⟨w1, w2, rfl, ra, rb⟩ := vals2 rv
  refine PyProof.Rows.tail_any (PyProof.Rows.IsTup.typeIs (pt.push _)) PyProof.Rows.slot_tuple_getitem.lookup ?_ rfl
  refine getItem_rev2 (pt.push _) (Heap.IsSliceOf.new ..) ps ?_
  let o1 : Obj := { cls := .type "slice", data := .fields #[Value.none, Value.none, vs] }
  have sz : (s4.heap.push o1).objs.size = s4.heap.objs.size + 1 := Heap.size_push ..
  refine ⟨V.ref (s4.heap.push o1).objs.size, _, I4.laid (o := .tup [v2, u]) (fun b u e => Heap.get?_push_of_some _ (Heap.get?_push_of_some _ e)) (by rw [sz]; exact Nat.le_succ _) ?_, rfl, q _ (I4.hok.fresh (by rw [sz]; exact Nat.le_succ _))⟩
  exact ⟨by show 2 ≤ sizeLine; decide, [w2, w1], .cons rb (.cons ra .nil), PyProof.Rows.IsTup.new ..⟩
end WR
namespace WR
open PySem PySem.Spec PyProof.Rows L2
/-! ## the same rules, their fragment told from outside (within a comprehension the context is made anew) -/
variable {X : Cx} {K : PySem.W.Frag}
theorem call_len_K (hK : X.K = K := by rfl) : CallR X (.builtin "len") (fun xs H Q => ∃ a ys, xs = [V.ref a] ∧ (SqL K H a ys ∨ SqT K H a ys) ∧ Q (V.int ys.length) H) := hK ▸ call_len_seq
theorem ix_K (hK : X.K = K := by rfl) : IxR X (rIx K) := hK ▸ ix_seq
theorem sl_K (hK : X.K = K := by rfl) : SlR X (rSlA K) := hK ▸ sl_tupA
theorem inD_K (hu : X.A.units + 65 < cLine) (hK : X.K = K := by rfl) : OpR X (compareOp .In) (rInD K) := hK ▸ op_inD hu
theorem notInD_K (hu : X.A.units + 65 < cLine) (hK : X.K = K := by rfl) : OpR X (compareOp .NotIn) (rNotInD K) := hK ▸ op_notInD hu
theorem catA_K (hK : X.K = K := by rfl) : OpR X (binaryOp .Add) (rCatA K) := hK ▸ op_catA
theorem revT_K {e : Expr} {te : TE} {k : Nat} {p1 p2 p3 pos : Pos} (he : PE X e te) (hK : X.K = K := by rfl) : PE X (.Subscript e (.Slice none none (some (.UnaryOp .USub (.Constant (.int 1) k p1) p2)) p3) pos) (tRevT K te) := hK ▸ pe_revT he
theorem pop_K {o e : Expr} {to : TE} {t : TA} {apos cpos : Pos} (ho : PE X o to) (ha : PA X [e] t)
    (hb : attributeBase o "pop" X.env (eval o X.env) = eval o X.env := by rfl)
    (hf : (((backTo cpos (starEach [e] X.env)).all (fun x => !x.1)) && ((backToKw cpos (keywordEach [] X.env)).all fun x => x.1.isSome) && decide (([e].length + ([] : List Keyword).length + if ([] : List Keyword).isEmpty = true then 0 else 1) < 30)) = true := by rfl)
    (hl : (apos.endLine == cpos.line) = true := by rfl) (hs : starEach [e] X.env = (false, eval e X.env) :: starEach [] X.env := by rfl) (hp : ((backTo cpos (starEach [] X.env)).any fun x => x.1) = false := by rfl) (hK : X.K = K := by rfl) :
    PE X (.Call (.Attribute o "pop" apos) [e] [] cpos) (tBM K "list" rPopAt to t) := hK ▸ pe_bm PySem.F.plainAttrs_list PySem.F.slot_list_pop PySem.F.type_list_pop mt_popAt ho ha hb hf hl hs hp
def tTruK (K : PySem.W.Frag) (ta : TE) : TT := fun σ H Q => ta σ H fun x H' => ∃ k, TruV K x H' k ∧ Q k H'
theorem truth_K {a : Expr} {ta : TE} (ha : PE X a ta) (hn : ∀ whole : Sem Value, PySem.isTrue a X.env whole = (do
    let v ← whole
    standAt a.pos
    holding [v] (truthy v))) (hK : X.K = K := by rfl) : PT X a (tTruK K ta) := hK ▸ pt_truth ha hn
end WR
namespace WR
open PySem PySem.Spec PyProof.Rows L2
/-! ## wealths -/
def worthOf : PyData → Int
  | .tuple [_, .int i] => i
  | _ => 0
/-- the hands that stand, home by home, with their wealths -/
def richOf : List PyData → List PyData → List (Str × Int)
  | h :: hs, s :: st => if isUnit s = true then richOf hs st else (entryName s, worthOf s + worthOf h) :: richOf hs st
  | _, _ => []
def kvOf (p : Str × Int) : Key × V := (Sum.inr p.1, .int p.2)
theorem richOf_snoc : ∀ {hs st : List PyData} {h s : PyData}, hs.length = st.length → richOf (hs ++ [h]) (st ++ [s]) = richOf hs st ++ (if isUnit s = true then [] else [(entryName s, worthOf s + worthOf h)])
  | [], [], h, s, _ => by
    show (if isUnit s = true then richOf [] [] else (entryName s, worthOf s + worthOf h) :: richOf [] []) = _
    by_cases u : isUnit s = true
    · rw [if_pos u, if_pos u]; rfl
    · rw [if_neg u, if_neg u]; rfl
  | a :: hs, b :: st, h, s, e => by
    have ih := richOf_snoc (hs := hs) (st := st) (h := h) (s := s) (by simpa using e)
    show (if isUnit b = true then richOf (hs ++ [h]) (st ++ [s]) else (entryName b, worthOf b + worthOf a) :: richOf (hs ++ [h]) (st ++ [s])) = (if isUnit b = true then richOf hs st else (entryName b, worthOf b + worthOf a) :: richOf hs st) ++ _
    by_cases u : isUnit b = true
    · rw [if_pos u, if_pos u, ih]
    · rw [if_neg u, if_neg u, ih]; rfl
theorem richOf_names : ∀ {hs st : List PyData}, hs.length = st.length → (richOf hs st).map Prod.fst = (st.filter fun d => !isUnit d).map entryName
  | [], [], _ => rfl
  | a :: hs, b :: st, e => by
    have ih := richOf_names (hs := hs) (st := st) (by simpa using e)
    show List.map Prod.fst (if isUnit b = true then richOf hs st else (entryName b, worthOf b + worthOf a) :: richOf hs st) = _
    by_cases u : isUnit b = true
    · rw [if_pos u, List.filter_cons_of_neg (by simp [u]), ih]
    · rw [if_neg u, List.filter_cons_of_pos (by simpa using u), List.map_cons, List.map_cons, ih]
theorem badHand_is : ∀ (l : List PyData) (k : Nat) (seen : List Str), badHand k seen l = .none → seen.Nodup → (∀ d ∈ l, isUnit d = true ∨ isEntry d = true) ∧ (seen ++ (l.filter fun d => !isUnit d).map entryName).Nodup
  | [], _, _, _, nd => ⟨(fun _ z => by cases z), by simpa using nd⟩
  | d :: r, k, seen, h, nd => by
    unfold badHand at h
    by_cases c : handOk seen d = true
    · rw [if_pos c] at h
      by_cases u : isUnit d = true
      · rw [if_pos u] at h
        obtain ⟨h1, h2⟩ := badHand_is r _ _ h nd
        refine ⟨fun x hx => ?_, ?_⟩
        · rcases List.mem_cons.mp hx with rfl | hx
          · exact .inl u
          · exact h1 x hx
        · rw [List.filter_cons_of_neg (by simp [u])]; exact h2
      · rw [if_neg u] at h
        have hk : isEntry d = true ∧ entryName d ∉ seen := by
          unfold handOk homeOk at c
          simpa [u] using c
        have nd2 : (seen ++ [entryName d]).Nodup := by
          rw [List.nodup_append]
          refine ⟨nd, by simp, fun a ha b hb => ?_⟩
          rw [List.mem_singleton.mp hb]
          exact fun z => hk.2 (by rw [← z]; exact ha)
        obtain ⟨h1, h2⟩ := badHand_is r _ _ h nd2
        refine ⟨fun x hx => ?_, ?_⟩
        · rcases List.mem_cons.mp hx with rfl | hx
          · exact .inr hk.1
          · exact h1 x hx
        · rw [List.filter_cons_of_pos (by simpa using u), List.map_cons]
          simpa using h2
    · rw [if_neg c] at h; cases h
theorem val_none {l : List (Str × Int)} {n : Str} (h : n ∉ l.map Prod.fst) : valV (l.map kvOf) (Sum.inr n) = none := by
  unfold valV
  rw [List.find?_eq_none.mpr fun x hx => ?_]
  · rfl
  · obtain ⟨p, hp, rfl⟩ := List.mem_map.mp hx
    intro z
    have z2 : (Sum.inr p.1 : Key) = Sum.inr n := of_decide_eq_true z
    injection z2 with z3
    exact h (List.mem_map.mpr ⟨p, hp, z3⟩)
/-- the wealth told of a hand -/
def wealthIn (l : List (Str × Int)) (n : Str) : Int := match l.find? (fun p => decide (p.1 = n)) with
  | some p => p.2
  | none => 0
theorem val_some : ∀ {l : List (Str × Int)} {n : Str}, n ∈ l.map Prod.fst → valV (l.map kvOf) (Sum.inr n) = some (.int (wealthIn l n))
  | [], n, h => by cases h
  | p :: l, n, h => by
    have e : valV ((p :: l).map kvOf) (Sum.inr n) = if p.1 = n then some (.int p.2) else valV (l.map kvOf) (Sum.inr n) := by
      unfold valV
      rw [List.map_cons, List.find?_cons]
      by_cases z : p.1 = n
      · have : decide ((kvOf p).1 = Sum.inr n) = true := decide_eq_true (by rw [← z]; rfl)
        rw [this, if_pos z]; rfl
      · have : decide ((kvOf p).1 = Sum.inr n) = false := decide_eq_false fun q => z (by injection q)
        rw [this, if_neg z]
    have e2 : wealthIn (p :: l) n = if p.1 = n then p.2 else wealthIn l n := by
      unfold wealthIn
      rw [List.find?_cons]
      by_cases z : p.1 = n
      · rw [decide_eq_true z, if_pos z]
      · rw [decide_eq_false z, if_neg z]
    rw [e, e2]
    by_cases z : p.1 = n
    · rw [if_pos z, if_pos z]
    · rw [if_neg z, if_neg z]
      refine val_some ?_
      rw [List.map_cons] at h
      rcases List.mem_cons.mp h with q | q
      · exact absurd q.symm z
      · exact q
theorem wealth_map : ∀ {l : List (Str × Int)}, (l.map Prod.fst).Nodup → ∀ p ∈ l, wealthIn l p.1 = p.2
  | [], _, _, h => by cases h
  | q :: l, nd, p, h => by
    have e2 : wealthIn (q :: l) p.1 = if q.1 = p.1 then q.2 else wealthIn l p.1 := by
      unfold wealthIn
      rw [List.find?_cons]
      by_cases z : q.1 = p.1
      · rw [decide_eq_true z, if_pos z]
      · rw [decide_eq_false z, if_neg z]
    rw [List.map_cons, List.nodup_cons] at nd
    rw [e2]
    rcases List.mem_cons.mp h with rfl | h
    · rw [if_pos rfl]
    · have : q.1 ≠ p.1 := fun z => nd.1 (by rw [z]; exact List.mem_map_of_mem h)
      rw [if_neg this]
      exact wealth_map nd.2 p h
theorem told_perm {l : List (Str × Int)} {ys : List Str} (nd : (l.map Prod.fst).Nodup) (h : ys.Perm (l.map Prod.fst)) : (ys.map fun n => (n, wealthIn l n)).Perm l := by
  have p := h.map fun n => (n, wealthIn l n)
  rw [List.map_map] at p
  have e : l.map ((fun n => (n, wealthIn l n)) ∘ Prod.fst) = l := by
    refine (List.map_congr_left fun p hp => ?_).trans (List.map_id l)
    show (p.1, wealthIn l p.1) = p
    rw [wealth_map nd p hp]
  rw [e] at p
  exact p
/-- a valid standing of a valid town -/
theorem standing_shape {t s : PyData} (ht : townWrong t = .none) (hs : standingWrong t s = .none) : ∃ hm rs st, t = .tuple [.tuple hm, .tuple rs] ∧ s = .tuple st ∧ st.length = hm.length ∧ (∀ d ∈ hm, isEntry d = true) ∧ (∀ d ∈ st, isUnit d = true ∨ isEntry d = true) ∧ ((st.filter fun d => !isUnit d).map entryName).Nodup := by
  obtain ⟨d, l, rs, rfl, h1, _⟩ := town_shape ht
  unfold standingWrong at hs
  split at hs
  · rename_i st
    by_cases e : st.length = homesOf (.tuple [.tuple (d :: l), .tuple rs])
    · rw [if_pos e] at hs
      obtain ⟨a, b⟩ := badHand_is st 0 [] hs List.nodup_nil
      exact ⟨d :: l, rs, st, rfl, rfl, e, badHome_none _ _ _ h1, a, by simpa using b⟩
    · rw [if_neg e] at hs; cases hs
  · cases hs
section
variable {P : Program} {w : World} {K : PySem.W.Frag} {mg : Str → Option Value} {base : Heap} {f : Addr} {fd : FuncData} {T : Addr}
/-! ### wealth_by_hand -/
abbrev s_wealth_by_hand : Stmt := topS 21
abbrev N_wealth_by_hand : List Str := ["town", "standing", "found", "_", "worth", "there", "hand", "coins"]
abbrev P_wealth_by_hand : List Str := ["town", "standing"]
theorem sc_wealth_by_hand : FnScope N_wealth_by_hand P_wealth_by_hand (defScope s_wealth_by_hand) := ⟨rfl, rfl, rfl, by decide +kernel, rfl, by decide +kernel, by decide +kernel⟩

def sp_wealth_by_hand : Sp := fun vs H Q _ => ∃ (v v2 : V) (hm rs st : List PyData), vs = [v, v2] ∧ DV H v (.tuple [.tuple hm, .tuple rs]) ∧ DV H v2 (.tuple st) ∧ st.length < 64 ∧ townWrong (.tuple [.tuple hm, .tuple rs]) = .none ∧ standingWrong (.tuple [.tuple hm, .tuple rs]) (.tuple st) = .none ∧
  ∀ H' a (ys : List (Str × Int)), StayT H H' → H a = none → H' a = some (.dK (ys.map kvOf)) → ys.Perm (richOf hm st) → sortedS (ys.map Prod.fst) = true → Q (.ref a) H'
theorem ok_wealth_by_hand (F : FnP K "wealth_by_hand" s_wealth_by_hand f fd) (fr : Free mg) :
    FnOk P w K mg base (L2.CX P w) 1 f fd P_wealth_by_hand sp_wealth_by_hand := by
  refine F.ok sc_wealth_by_hand (fun vs H Q E h => ?_) (fun cdv A outer s H vs Q E hr h => ⟨_, PSs.nox (pss_cons (ps_set (i := 2) sc_wealth_by_hand.nd rfl (Or.inr rfl) pe_dnewK)
    (pss_cons (ps_for PassesOwn.never rfl (RZ.pi_zipA rfl (fr "zip" (by decide)) (pa_cons (pe_ix ix_K (pv 0) pe_int (fun _ _ => rfl)) (pa_cons (pv 1) pa_nil))) (pg_tup rfl (pgs_cons (pg_tup rfl (pgs_cons (pg_name (i := 3) sc_wealth_by_hand.nd rfl (Or.inl rfl)) (pgs_cons (pg_name (i := 4) sc_wealth_by_hand.nd rfl (Or.inl rfl)) pgs_nil))) (pgs_cons (pg_name (i := 5) sc_wealth_by_hand.nd rfl (Or.inl rfl)) pgs_nil))) (pss_one (ps_if (pt_cmpR (op_neU hr.units0) (pv 5) (pe_tup pa_nil) (nomark _)) (pss_cons (ps_asg (pv 5) (pg_tup rfl (pgs_cons (pg_name (i := 6) sc_wealth_by_hand.nd rfl (Or.inl rfl)) (pgs_cons (pg_name (i := 7) sc_wealth_by_hand.nd rfl (Or.inl rfl)) pgs_nil))))
    (pss_one (ps_dput (hu_of hr) (pv 2) (pv 6) (pe_op op_add (pv 7) (pv 4)) rfl))) pss_nil)))
    (pss_one (ps_ret (pe_dc (own := [("hand", 6)]) (g := gName 6) (tt := tYes) rfl sc_wealth_by_hand.nd (pi_list (pe_callB (call_sortedD rfl) (by rfl) (fr "sorted" (by decide)) (by decide +kernel) (pa_cons (pv 2) pa_nil))) (blkOk_by (N := N_wealth_by_hand) (sc := defScope s_wealth_by_hand) (by decide +kernel)) (fun _ _ _ _ _ => (pg_name (i := 6) sc_wealth_by_hand.nd rfl (Or.inl rfl))) (fun _ _ _ _ _ => pts_nil) (fun _ _ _ _ _ => (pv 6)) (fun _ _ _ _ _ => (pe_dget (hu_of hr) (pv 2) (pv 6) (fun _ _ => rfl)))))))), ?_⟩)
  · obtain ⟨v, v2, hm, rs, st, rfl, _⟩ := h; rfl
  · obtain ⟨v, v2, hm, rs, st, rfl, hd, hd2, s64, tw, sw, q⟩ := h
    obtain ⟨_, _, _, e1, e2, len, he, hs, nd⟩ := standing_shape tw sw
    cases e1
    cases e2
    obtain ⟨p, zs, rfl, hp, hzs, _⟩ := dv_tup hd
    cases hzs with
    | @cons va vs0 d0 ds0 ha t0 =>
    cases t0 with
    | @cons vb vs1 d1 ds1 hb t1 =>
    cases t1
    obtain ⟨aa, xa, rfl, haa, hxa, _⟩ := dv_tup ha
    obtain ⟨as, xs, rfl, has, hxs, _⟩ := dv_tup hd2
    have l1 := hxa.length
    have l2 := hxs.length
    refine fun fd0 nfd => ?_
    have s2 := (StayT.refl H).new (o := .dK []) nfd
    refine ⟨_, rfl, .inr (.inl ⟨p, _, _, .ref aa, rfl, rfl, SqT.of (s2.same _ _ hp fun _ z => nomatch z), atI_nat (j := 0) rfl, _, rfl, aa, as, xa, xs, rfl, .inr ⟨SqT.of (s2.same _ _ haa fun _ z => nomatch z), SqT.of (s2.same _ _ has fun _ z => nomatch z), ?_⟩⟩)⟩
    refine RZ.for_zipT (xs := xa) (ys := xs) (by omega) (fun i σ G => ∃ (o3 o4 o5 o6 o7 : Option V), σ = [some (.ref p), some (.ref as), some (.ref fd0), o3, o4, o5, o6, o7] ∧ StayT H G ∧ G fd0 = some (.dK ((richOf (hm.take i) (st.take i)).map kvOf))) ?h0 ?hq ?hs ?hd
    case h0 => exact ⟨none, none, none, none, none, rfl, s2, upd_same⟩
    case hq =>
      rintro i σ G ⟨o3, o4, o5, o6, o7, rfl, sG, _⟩
      exact ⟨SqT.of (sG.same _ _ haa fun _ z => nomatch z), SqT.of (sG.same _ _ has fun _ z => nomatch z)⟩
    case hs =>
      rintro i x y tq σ G hx hy ⟨o3, o4, o5, o6, o7, rfl, sG, hfd⟩ ntq
      obtain ⟨dh, hh1, hdx, _, htk⟩ := dvs_at hxa hx
      obtain ⟨dw, hh2, hdy, _, htk2⟩ := dvs_at hxs hy
      have en := he dh (List.mem_of_getElem? hh1)
      obtain ⟨n0, w0, rfl, _, _⟩ := entry_shape en
      have sG1 := sG.new (o := .tup [x, y]) ntq
      have hfd1 : upd G tq (.tup [x, y]) fd0 = some (.dK ((richOf (hm.take i) (st.take i)).map kvOf)) := by rw [upd_ne (ne_of_none hfd ntq)]; exact hfd
      obtain ⟨xa0, zx, rfl, hx0, hzx, _⟩ := dv_tup hdx
      cases hzx with
      | @cons v0 vs0 d0 ds0 g0 t0 =>
      cases t0 with
      | @cons v1 vs1 d1 ds1 g1 t1 =>
      cases t1
      cases dv_str g0
      cases dv_int g1
      have ln : (hm.take i).length = (st.take i).length := by rw [List.length_take, List.length_take]; omega
      have sn := richOf_snoc (hs := hm.take i) (st := st.take i) (h := .tuple [.str n0, .int w0]) (s := dw) ln
      rw [← htk, ← htk2] at sn
      have hx0' : upd G tq (.tup [.ref xa0, y]) xa0 = some (.tup [.str n0, .int w0]) := sG1.same _ _ hx0 fun _ z => nomatch z
      refine ⟨tq, _, rfl, SqT.of upd_same, rfl, _, _, rfl, xa0, _, rfl, SqT.of hx0', rfl, _, _, rfl, _, _, rfl, rfl, _, _, rfl, rfl, ?_⟩
      have ent := hs dw (List.mem_of_getElem? hh2)
      obtain ⟨yl, rfl⟩ : ∃ yl, dw = .tuple yl := by
        rcases ent with u | u
        · cases dw with
          | tuple l => exact ⟨l, rfl⟩
          | _ => cases u
        · obtain ⟨n, i, e, _⟩ := entry_shape u
          exact ⟨_, e⟩
      obtain ⟨ya, ys, rfl, hya, hys, _⟩ := dv_tup hdy
      refine ⟨_, rfl, by show 0 ≤ sizeLine; decide, fun u nu => ?_⟩
      have sG2 := sG1.new (o := .tup []) nu
      have hfd2 : upd (upd G tq (.tup [.ref xa0, .ref ya])) u (.tup []) fd0 = some (.dK ((richOf (hm.take i) (st.take i)).map kvOf)) := by rw [upd_ne (ne_of_none hfd1 nu)]; exact hfd1
      refine ⟨ya, u, ys, rfl, rfl, sG2.same _ _ hya (fun _ z => nomatch z), upd_same, _, rfl, ?_⟩
      generalize upd (upd G tq (.tup [.ref xa0, .ref ya])) u (.tup []) = G2 at sG2 hfd2
      clear hfd1 sG1 nu hx0' ntq hfd sG
      cases hys with
      | nil =>
        refine iteF ⟨_, _, _, _, _, rfl, sG2, ?_⟩
        rw [sn, if_pos (show isUnit (.tuple []) = true from rfl), List.append_nil]
        exact hfd2
      | @cons va ys0 a1 yl0 hva t0 =>
      rcases ent with u0 | u0
      · cases u0
      obtain ⟨n1, w1, e1, _, _⟩ := entry_shape u0
      cases e1
      cases t0 with
      | @cons vb2 ys1 b1 yl1 hvb t1 =>
      cases t1
      cases dv_str hva
      cases dv_int hvb
      refine iteT ⟨_, rfl, ya, _, rfl, SqT.of (sG2.same _ _ hya (fun _ z => nomatch z)), rfl, _, _, rfl, _, _, rfl, rfl, _, rfl, _, rfl, _, _, rfl, rfl, _, rfl, _, rfl, ?_⟩
      have lr : (richOf (hm.take i) (st.take i)).length ≤ 64 := by
        have h1 : ((richOf (hm.take i) (st.take i)).map Prod.fst).length ≤ (st.take i).length := by
          rw [richOf_names ln, List.length_map]; exact List.length_filter_le _ _
        rw [List.length_map] at h1
        rw [List.length_take] at h1
        omega
      refine ⟨fd0, _, rfl, DPut.k (k := Sum.inr n1) hfd2 (by rw [List.length_map]; exact Nat.lt_of_le_of_lt lr (by decide)), ?_⟩
      refine ⟨_, _, _, _, _, rfl, sG2.upd nfd, ?_⟩
      rw [upd_same, sn, if_neg (by simp [isUnit]), List.map_append]
      congr 1
      congr 1
      refine putK_new _ ?_
      refine val_none ?_
      have sub : (((st.take (i + 1)).filter fun d => !isUnit d).map entryName).Nodup := (((List.take_sublist (i + 1) st).filter _).map _).nodup nd
      rw [htk2, List.filter_append, List.map_append, ← richOf_names ln] at sub
      intro z
      have := (List.nodup_append.mp sub).2.2 _ z n1 (by simp [isUnit, entryName])
      exact this rfl
    case hd =>
      rintro σ G ⟨o3, o4, o5, o6, o7, rfl, sG, hfd⟩
      rw [show hm.take xa.length = hm from by rw [l1, List.take_length], show st.take xa.length = st from by rw [l1, ← len, List.take_length]] at hfd
      have nr := richOf_names (hs := hm) (st := st) (by omega)
      have lr : (richOf hm st).length ≤ 63 := by
        have h1 : ((richOf hm st).map Prod.fst).length ≤ st.length := by
          rw [nr, List.length_map]; exact List.length_filter_le _ _
        rw [List.length_map] at h1
        omega
      have ndr : ((richOf hm st).map Prod.fst).Nodup := by rw [nr]; exact nd
      generalize richOf hm st = rich at hfd lr ndr q
      refine ⟨_, rfl, fd0, rich.map kvOf, rich.map Prod.fst, rfl, .inl hfd, by rw [List.map_map, List.map_map]; rfl, by rw [List.length_map]; omega, fun ys pl perm srt npl => ⟨pl, rfl, ⟨_, SqL.of upd_same⟩, fun D nD => ?_⟩⟩
      have D_pl : D ≠ pl := fun z => by rw [z, upd_same] at nD; cases nD
      have nD0 : G D = none := by rw [upd_ne D_pl] at nD; exact nD
      have yl : ys.length = rich.length := by rw [perm.length_eq, List.length_map]
      have ndy : ys.Nodup := perm.nodup_iff.mpr ndr
      have sG1 := (StayT.refl G).new (o := .lst (ys.map V.str)) npl
      have hfd1 : upd G pl (.lst (ys.map V.str)) fd0 = some (.dK (rich.map kvOf)) := by rw [upd_ne (ne_of_none hfd npl)]; exact hfd
      have hpl1 : upd G pl (.lst (ys.map V.str)) pl = some (.lst (ys.map V.str)) := upd_same
      generalize upd G pl (.lst (ys.map V.str)) = G1 at sG1 hfd1 hpl1 nD
      refine dc_it (walk_list (xs := ys.map V.str)) (fun i G2 => StayT G1 G2 ∧ G2 D = some (.dK (((ys.take i).map fun n => (n, wealthIn rich n)).map kvOf))) ?c0 ?cG ?cs ?cd
      case c0 => exact ⟨(StayT.refl G1).new nD, upd_same⟩
      case cG =>
        rintro i G2 hi ⟨s3, _⟩
        exact SqL.of (s3.same _ _ hpl1 fun _ z => nomatch z)
      case cs =>
        rintro i y _ G2 hi ⟨s3, hD⟩ ⟨rfl, hy⟩
        rw [List.length_map] at hi
        have hy2 : y = .str ys[i] := by simpa [hi] using hy.symm
        subst hy2
        have tk : ys.take (i + 1) = ys.take i ++ [ys[i]] := by rw [List.take_add_one, List.getElem?_eq_getElem hi]; rfl
        have my : ys[i] ∈ rich.map Prod.fst := perm.mem_iff.mp (List.getElem_mem hi)
        have ni : ys[i] ∉ ys.take i := fun z => by
          have nt : (ys.take (i + 1)).Nodup := (List.take_sublist _ _).nodup ndy
          rw [tk] at nt
          exact (List.nodup_append.mp nt).2.2 _ z _ (List.mem_singleton.mpr rfl) rfl
        generalize ys[i] = n1 at tk my ni
        refine ⟨rfl, yes_go ⟨_, rfl, _, rfl, _, rfl, fd0, _, rfl, .inl ⟨rich.map kvOf, Sum.inr n1, .inl (s3.same _ _ hfd1 fun _ z => nomatch z), rfl, (val_some my).symm⟩, _, Sum.inr n1, rfl, hD, ?_, s3.upd nD, ?_⟩⟩
        · rw [List.length_map, List.length_map, List.length_take]
          exact Nat.lt_of_le_of_lt (show min i ys.length ≤ 100 by omega) (by decide)
        · rw [upd_same, tk, List.map_append, List.map_append]
          congr 1
          congr 1
          refine putK_new _ (val_none ?_)
          rw [List.map_map]
          intro z
          obtain ⟨m, hm1, hm2⟩ := List.mem_map.mp z
          exact ni (by rw [← hm2]; exact hm1)
      case cd =>
        rintro G2 ⟨s3, hD⟩
        rw [List.length_map, List.take_length] at hD
        refine q G2 D _ (sG.trans (sG1.trans s3)) ?_ hD (told_perm ndr perm) (by rw [List.map_map]; exact (by rw [show (Prod.fst ∘ fun n => (n, wealthIn rich n)) = _root_.id from rfl, List.map_id]; exact srt))
        exact sG.none nD0
/-! ### wealths -/
abbrev s_wealths : Stmt := topS 23
abbrev N_wealths : List Str := ["town", "standing"]
abbrev P_wealths : List Str := ["town", "standing"]
theorem sc_wealths : FnScope N_wealths P_wealths (defScope s_wealths) := ⟨rfl, rfl, rfl, by decide +kernel, rfl, by decide +kernel, by decide +kernel⟩

def sp_wealths (T CT CS : Addr) : Sp := fun vs H Q E => ∃ v d v2 d2, vs = [v, v2] ∧ DV H v d ∧ DV H v2 d2 ∧ TG T H ∧ (∀ l, d2 = .tuple l → l.length < 64) ∧ (∀ hm rs st, d = .tuple [.tuple hm, .tuple rs] → d2 = .tuple st → townWrong d = .none → standingWrong d d2 = .none → ∀ H' a (ys : List (Str × Int)), StayT H H' → H a = none → H' a = some (.dK (ys.map kvOf)) → ys.Perm (richOf hm st) → sortedS (ys.map Prod.fst) = true → Q (.ref a) H') ∧
  (townWrong d ≠ .none → RaisesF CT "wrong" (townWrong d) H E) ∧ (townWrong d = .none → standingWrong d d2 ≠ .none → RaisesF CS "wrong" (standingWrong d d2) H E)
theorem ok_wealths2 {CT CS : Addr} (F : FnP K "wealths" s_wealths f fd) (fr : Free mg) (c_check_standing : Cal P w K mg base "check_standing" 7 P_check_standing (sp_check_standing T CT CS)) (c_wealth_by_hand : Cal P w K mg base "wealth_by_hand" 1 P_wealth_by_hand sp_wealth_by_hand) :
    FnOk P w K mg base (L2.CX P w) 8 f fd P_wealths (sp_wealths T CT CS) := by
  refine F.ok sc_wealths (fun vs H Q E h => ?_) (fun cdv A outer s H vs Q E hr h => ⟨_, (pss_cons (ps_expr (pe_X (W := fun cls d _ H => E cls d H) c_check_standing (hr.mono (by omega)) (takes_of (E := E) rfl rfl rfl rfl) (pa_cons (pv 0) (pa_cons (pv 1) pa_nil))))
    (pss_one (ps_ret (pe_F c_wealth_by_hand (hr.mono (by omega)) (pa_cons (pv 0) (pa_cons (pv 1) pa_nil)))))), ?_⟩)
  · obtain ⟨v, d, v2, d2, rfl, _⟩ := h; rfl
  · obtain ⟨v, d, v2, d2, rfl, hd, hd2, tg, small, q, x⟩ := h
    refine ⟨v, rfl, v2, rfl, v, d, v2, d2, rfl, hd, hd2, tg, fun tw sw H1 s1 => ?_, x⟩
    obtain ⟨hm, rs, st, rfl, rfl, len, he, hs, nd⟩ := standing_shape tw sw
    refine ⟨v, rfl, v2, rfl, v, v2, hm, rs, st, rfl, hd.stay s1, hd2.stay s1, small st rfl, tw, sw, fun H2 a ys s2 na ha perm srt => ?_⟩
    exact q hm rs st rfl rfl tw sw H2 a ys (s1.trans s2) (s1.none na) ha perm srt
end
end WR
namespace WR
open PySem PySem.Spec PyProof.Rows L2
/-! ## [x for x in t if not ..]: is it empty? -/
theorem wipe_one (σ : L2.St) (j : Nat) (o : Option V) : wipe (σ.set j o) [j] = wipe σ [j] := by
  show (σ.set j o).set j none = σ.set j none
  rw [List.set_set]
theorem lc_sift {J : It} {n : Nat} {G : Hp → Prop} {xs : List V} (wk : L2.Walk J n G (YAt xs)) {tt : TT} {j : Nat} {σ : L2.St} {H : Hp} {D : Addr} {Qd : Hp → Prop} (pb : Nat → Bool) (nD : H D = none) (jl : j < σ.length) (hn : n ≤ 1000)
    (hG : ∀ H1, StayT H H1 → G H1) (ht : ∀ i x H1, i < n → xs[i]? = some x → StayT H H1 → ∀ R : Bool → Hp → Prop, R (!pb i) H1 → tt ((wipe σ [j]).set j (some x)) H1 R)
    (hd : ∀ H1 vs, StayT H H1 → H1 D = some (.lst vs) → vs.isEmpty = (List.range n).all pb → Qd H1) :
    ∃ W : Nat → Nat → Hp → Prop, (∃ m, W 0 m (upd H D (.lst []))) ∧ ∀ i m H, W i m H → J.stop i H ∧ Qd H ∨ J.go i H ∧ ∃ Nx : Hp → Prop, (∀ H', Nx H' → ∃ m', m' < m ∧ W (i + 1) m' H') ∧
      ∀ x H', J.yld i H x H' → gName j x (wipe σ [j]) H' fun σ2 H2 => wipe σ2 [j] = wipe σ [j] ∧ tt σ2 H2 fun b H3 => if b = true then tVar j σ2 H3 fun y H4 => ∃ acc, H4 D = some (.lst acc) ∧ acc.length < sizeLine ∧ Nx (upd H4 D (.lst (acc ++ [y]))) else Nx H3 := by
  refine lc_it (g := gName j) (te := tVar j) (vs := [j]) wk (fun i H1 => StayT H H1 ∧ ∃ vs : List V, H1 D = some (.lst vs) ∧ vs.length ≤ i ∧ vs.isEmpty = (List.range i).all pb) ?h0 ?hG ?hs ?hd
  case h0 => exact ⟨(StayT.refl H).new nD, [], upd_same, Nat.le_refl _, rfl⟩
  case hG => exact fun i H1 _ h => hG H1 h.1
  case hs =>
    rintro i x _ H1 hi ⟨s1, vs, hD, hl, hb⟩ ⟨rfl, hx⟩
    have e : wipe ((wipe σ [j]).set j (some x)) [j] = wipe σ [j] := by rw [wipe_one]; show (σ.set j none).set j none = _; rw [List.set_set]; rfl
    refine ⟨e, ht i x H1 hi hx s1 _ ?_⟩
    have r : (List.range (i + 1)).all pb = ((List.range i).all pb && pb i) := by rw [List.range_succ, List.all_append]; simp
    cases ep : pb i with
    | true =>
      refine iteF ⟨s1, vs, hD, by omega, ?_⟩
      rw [r, ← hb, ep, Bool.and_true]
    | false =>
      refine iteT ⟨x, ?_, vs, hD, Nat.lt_of_le_of_lt (show vs.length ≤ 1000 by omega) (by decide), s1.upd nD, vs ++ [x], upd_same, by simp; omega, ?_⟩
      · have l : j < (wipe σ [j]).length := by show j < (σ.set j none).length; rw [List.length_set]; exact jl
        exact List.getElem?_set_self l
      · rw [r, ep, Bool.and_false]
        cases vs <;> rfl
  case hd =>
    rintro H1 ⟨s1, vs, hD, hl, hb⟩
    exact hd H1 vs s1 hD hb
/-- the same, where the test may leave more in the heap -/
theorem lc_sift2 {J : It} {n : Nat} {G : Hp → Prop} {xs : List V} (wk : L2.Walk J n G (YAt xs)) {tt : TT} {j : Nat} {σ : L2.St} {H : Hp} {D : Addr} {Qd : Hp → Prop} (nD : H D = none) (jl : j < σ.length) (hn : n ≤ 1000)
    (hG : ∀ H1, StayT H H1 → G H1) (ht : ∀ i x H1, i < n → xs[i]? = some x → StayT H H1 → ∀ R : Bool → Hp → Prop, (∀ H2, StayT H1 H2 → R false H2) → tt ((wipe σ [j]).set j (some x)) H1 R)
    (hd : ∀ H1, StayT H H1 → H1 D = some (.lst []) → Qd H1) :
    ∃ W : Nat → Nat → Hp → Prop, (∃ m, W 0 m (upd H D (.lst []))) ∧ ∀ i m H, W i m H → J.stop i H ∧ Qd H ∨ J.go i H ∧ ∃ Nx : Hp → Prop, (∀ H', Nx H' → ∃ m', m' < m ∧ W (i + 1) m' H') ∧
      ∀ x H', J.yld i H x H' → gName j x (wipe σ [j]) H' fun σ2 H2 => wipe σ2 [j] = wipe σ [j] ∧ tt σ2 H2 fun b H3 => if b = true then tVar j σ2 H3 fun y H4 => ∃ acc, H4 D = some (.lst acc) ∧ acc.length < sizeLine ∧ Nx (upd H4 D (.lst (acc ++ [y]))) else Nx H3 := by
  refine lc_it (g := gName j) (te := tVar j) (vs := [j]) wk (fun i H1 => StayT H H1 ∧ H1 D = some (.lst [])) ?h0 ?hG ?hs ?hd
  case h0 => exact ⟨(StayT.refl H).new nD, upd_same⟩
  case hG => exact fun i H1 _ h => hG H1 h.1
  case hs =>
    rintro i x _ H1 hi ⟨s1, hD⟩ ⟨rfl, hx⟩
    have e : wipe ((wipe σ [j]).set j (some x)) [j] = wipe σ [j] := by rw [wipe_one]; show (σ.set j none).set j none = _; rw [List.set_set]; rfl
    exact ⟨e, ht i x H1 hi hx s1 _ fun H2 s2 => iteF ⟨s1.trans s2, s2.same _ _ hD fun _ z => nomatch z⟩⟩
  case hd => exact fun H1 h => hd H1 h.1 h.2
theorem walk_rangeAt {lo : Int} {n : Nat} : L2.Walk (Itr lo n) n (fun _ => True) (YAt ((List.range n).map fun i => V.int (lo + (i : Nat)))) := by
  have w := walk_range (lo := lo) (n := n)
  refine ⟨w.goes, w.stops, fun i H x H' hi g y => ?_⟩
  obtain ⟨h1, h2⟩ := w.yields i H x H' hi g y
  refine ⟨h1, ?_⟩
  rw [h2, List.getElem?_map, List.getElem?_range hi]
  rfl
theorem eqv_str (a b : Str) : (PyData.str a).eqv (.str b) = decide (a = b) := by
  simp only [PyData.eqv]
  by_cases h : a = b
  · subst h; simp
  · rw [decide_eq_false h]; exact beq_eq_false_iff_ne.mpr h
theorem any_str (l : List Str) (x : Str) : (l.map PyData.str).any (fun z => z.eqv (.str x)) = decide (x ∈ l) := by
  induction l with
  | nil => rfl
  | cons a l ih =>
    rw [List.map_cons, List.any_cons, ih, eqv_str]
    by_cases h : a = x
    · simp [h]
    · by_cases h2 : x ∈ l <;> simp [h, h2, Ne.symm h]
theorem eqv_pair (a b c d : Str) : (PyData.tuple [.str a, .str b]).eqv (.tuple [.str c, .str d]) = decide ((a, b) = (c, d)) := by
  have e : (PyData.tuple [.str a, .str b]).eqv (.tuple [.str c, .str d]) = ((PyData.str a).eqv (.str c) && (PyData.str b).eqv (.str d)) := by
    simp only [PyData.eqv, PyData.eqvAll, Bool.and_true]
  rw [e, eqv_str, eqv_str]
  by_cases h : a = c <;> by_cases h2 : b = d <;> simp [h, h2]
def pairOf (p : Str × Str) : PyData := .tuple [.str p.1, .str p.2]
theorem any_pair (l : List (Str × Str)) (a b : Str) : (l.map pairOf).any (fun z => z.eqv (.tuple [.str a, .str b])) = decide ((a, b) ∈ l) := by
  induction l with
  | nil => rfl
  | cons p l ih =>
    obtain ⟨c, d⟩ := p
    rw [List.map_cons, List.any_cons, ih]
    show ((PyData.tuple [.str c, .str d]).eqv (.tuple [.str a, .str b]) || _) = _
    rw [eqv_pair]
    by_cases h : (c, d) = (a, b)
    · rw [h]; simp
    · by_cases h2 : (a, b) ∈ l
      · simp [h2]
      · rw [decide_eq_false h, decide_eq_false h2, decide_eq_false]
        · rfl
        · intro z
          rcases List.mem_cons.mp z with z | z
          · exact h z.symm
          · exact h2 z
end WR
namespace WR
open PySem PySem.Spec PyProof.Rows L2
/-- a script: numbers -/
def Script (K : PySem.W.Frag) (H : Hp) (v : V) : Prop := ∃ (a : Addr) (ns : List Int), v = .ref a ∧ SqL K H a (ns.map V.int)
/-- a purse; k, what was counted, is at most b -/
def Purse (H : Hp) (p : Addr) (b : Nat) : Prop := ∃ n c k : Int, H p = some (.lst [.int n, .int c, .int k]) ∧ 0 ≤ k ∧ k ≤ b
end WR
namespace WR
open PySem PySem.Spec PyProof.Rows L2
def CPowB : Int → Int → Prop := fun i j => 0 ≤ j ∧ (Builtin.Int.intBits i : Int) * j ≤ 2 ^ 27
theorem op_powB {X : Cx} : OpR X (binaryOp .Pow) (rI CPowB fun i j => .int (i ^ j.toNat)) := opI fun _ _ _ _ _ _ _ hc q => PyProof.Rows.pow_int hc.1 hc.2 q
section
variable {P : Program} {w : World} {K : PySem.W.Frag} {mg : Str → Option Value} {base : Heap} {f : Addr} {fd : FuncData} {T : Addr}
/-! ### _law_at -/
abbrev s_law_at : Stmt := topS 35
abbrev N_law_at : List Str := ["script", "k"]
abbrev P_law_at : List Str := ["script", "k"]
theorem sc_law_at : FnScope N_law_at P_law_at (defScope s_law_at) := ⟨rfl, rfl, rfl, by decide +kernel, rfl, by decide +kernel, by decide +kernel⟩

def sp_law_at (K : PySem.W.Frag) : Sp := fun vs H Q _ => ∃ (v : V) (k : Nat), vs = [v, .int k] ∧ Script K H v ∧ ∀ i : Int, Q (.int i) H
theorem ok_law_at (F : FnP K "_law_at" s_law_at f fd) (fr : Free mg) : FnOk P w K mg base (L2.CX P w) 1 f fd P_law_at (sp_law_at K) := by
  refine F.ok sc_law_at (fun vs H Q E h => ?_) (fun cdv A outer s H vs Q E hr h => ⟨_, PSs.nox (pss_cons (ps_if (pt_cmpR op_lt (pv 1) (pe_callB call_len_seq (by rfl) (fr "len" (by decide)) (by decide +kernel) (pa_cons (pv 0) pa_nil)) (nomark _)) (pss_one (ps_ret (pe_ix ix_seq (pv 0) (pv 1) (fun _ _ => rfl)))) pss_nil)
    (pss_one (ps_ret pe_int))), ?_⟩)
  · obtain ⟨v, k, rfl, _⟩ := h; rfl
  · obtain ⟨v, k, rfl, ⟨a, ns, rfl, ha⟩, q⟩ := h
    refine ⟨_, rfl, _, rfl, _, _, rfl, .inl ha, _, _, rfl, rfl, _, rfl, ?_⟩
    by_cases z : ((k : Nat) : Int) < ((ns.map V.int).length : Nat)
    · rw [decide_eq_true z]
      have hk : k < ns.length := by simpa using z
      refine iteT ⟨_, rfl, _, rfl, .inl ⟨a, _, _, .int ns[k], rfl, rfl, ha, atI_nat (by simp [hk]), q _⟩⟩
    · rw [decide_eq_false z]
      exact iteF (q _)
/-! ### _law_mixed -/
abbrev s_law_mixed : Stmt := topS 36
abbrev N_law_mixed : List Str := ["cell", "k", "figure"]
abbrev P_law_mixed : List Str := ["cell", "k"]
theorem sc_law_mixed : FnScope N_law_mixed P_law_mixed (defScope s_law_mixed) := ⟨rfl, rfl, rfl, by decide +kernel, rfl, by decide +kernel, by decide +kernel⟩

def sp_law_mixed : Sp := fun vs H Q _ => ∃ c k : Int, vs = [.int c, .int k] ∧ (-2 ^ 64 < k ∧ k < 2 ^ 64) ∧ ∀ i : Int, Q (.int i) H
theorem ok_law_mixed (F : FnP K "_law_mixed" s_law_mixed f fd) (fr : Free mg) : FnOk P w K mg base (L2.CX P w) 1 f fd P_law_mixed sp_law_mixed := by
  refine F.ok sc_law_mixed (fun vs H Q E h => ?_) (fun cdv A outer s H vs Q E hr h => ⟨_, PSs.nox (pss_cons (ps_set (i := 2) sc_law_mixed.nd rfl (Or.inl rfl) (pe_op op_mod (pe_op op_add (pe_op op_add (pe_op op_add (pe_op op_mul (pv 0) pe_int) (pe_op op_mul (pe_op op_mul pe_int (pv 1)) (pv 1))) (pv 1)) pe_int) pe_int))
    (pss_cons (ps_set (i := 2) sc_law_mixed.nd rfl (Or.inl rfl) (pe_op op_mod (pe_op op_add (pe_op op_mul (pv 2) (pv 2)) pe_int) pe_int))
    (pss_one (ps_ret (pe_op op_mod (pe_op op_mul (pv 2) pe_int) pe_int))))), ?_⟩)
  · obtain ⟨c, k, rfl, _⟩ := h; rfl
  · obtain ⟨c, k, rfl, hk, q⟩ := h
    refine ⟨_, rfl, _, _, rfl, rfl, .inr (by decide), _, rfl, _, _, rfl, rfl, .inl (by decide), _, rfl, _, _, rfl, rfl, .inr hk, _, _, rfl, rfl, _, rfl, _, _, rfl, rfl, _, _, rfl, rfl, _, _, rfl, rfl, (show (0 : Int) < 2147483647 by decide), ?_⟩
    generalize hx : (c * 1103515245 + 7919 * k * k + k + 1) % 2147483647 = x
    have b1 : 0 ≤ x := hx ▸ Int.emod_nonneg _ (by decide)
    have b2 : x < 2147483647 := hx ▸ Int.emod_lt_of_pos _ (by decide)
    refine ⟨_, rfl, _, rfl, _, _, rfl, rfl, .inr ⟨by omega, by omega⟩, _, _, rfl, rfl, _, _, rfl, rfl, (show (0 : Int) < 2147483629 by decide), ?_⟩
    exact ⟨_, rfl, _, _, rfl, rfl, .inr (by decide), _, _, rfl, rfl, (show (0 : Int) < 2147483587 by decide), q _⟩
/-! ### _law_purse -/
abbrev s_law_purse : Stmt := topS 37
abbrev N_law_purse : List Str := ["script", "at", "cell"]
abbrev P_law_purse : List Str := ["script", "at"]
theorem sc_law_purse : FnScope N_law_purse P_law_purse (defScope s_law_purse) := ⟨rfl, rfl, rfl, by decide +kernel, rfl, by decide +kernel, by decide +kernel⟩

def sp_law_purse (K : PySem.W.Frag) : Sp := fun vs H Q _ => ∃ (v : V) (k : Nat), vs = [v, .int k] ∧ k ≤ 3 ∧ Script K H v ∧ ∀ p H', H p = none → StayT H H' → Purse H' p 3000 → Q (.ref p) H'
theorem ok_law_purse (F : FnP K "_law_purse" s_law_purse f fd) (fr : Free mg) (c_law_at : Cal P w K mg base "_law_at" 1 P_law_at (sp_law_at K)) : FnOk P w K mg base (L2.CX P w) 2 f fd P_law_purse (sp_law_purse K) := by
  refine F.ok sc_law_purse (fun vs H Q E h => ?_) (fun cdv A outer s H vs Q E hr h => ⟨_, PSs.nox (pss_cons (ps_set (i := 2) sc_law_purse.nd rfl (Or.inl rfl) (pe_F c_law_at (hr.mono (by omega)) (pa_cons (pv 0) (pa_cons (pv 1) pa_nil))))
    (pss_one (ps_ret (pe_lst (pa_cons (pe_op op_mod (pe_callB (call_max2 rfl) (by rfl) (fr "max" (by decide)) (by decide +kernel) (pa_cons (pe_op op_sub (pv 2) (pe_op op_pow pe_int pe_int)) (pa_cons pe_int pa_nil))) (pe_op op_powB (pe_op op_pow pe_int pe_int) pe_int)) (pa_cons (pe_op op_mod (pv 2) pe_int) (pa_cons (pe_op op_mul pe_int (pv 1)) pa_nil))))))), ?_⟩)
  · obtain ⟨v, k, rfl, _⟩ := h; rfl
  · obtain ⟨v, k, rfl, hk, hs, q⟩ := h
    refine ⟨_, rfl, _, rfl, v, k, rfl, hs, fun i => ?_⟩
    refine ⟨_, rfl, _, _, rfl, rfl, ⟨by decide, by decide, by decide⟩, _, _, rfl, rfl, _, _, rfl, _, _, rfl, rfl, ⟨by decide, by decide, by decide⟩, _, _, rfl, rfl, ?_, _, _, rfl, rfl, ?_, _, rfl, _, _, rfl, rfl, (show (0 : Int) < 2147483647 by decide), _, rfl, _, _, rfl, rfl, .inl (by decide), ?_⟩
    · exact ⟨by decide, by decide +kernel⟩
    · show (0 : Int) < _
      decide +kernel
    · refine ⟨by show 3 ≤ sizeLine; decide, fun p np => q p _ np ((StayT.refl H).new np) ⟨_, _, _, upd_same, by omega, by omega⟩⟩
/-! ### _law_draw -/
abbrev s_law_draw : Stmt := topS 38
abbrev N_law_draw : List Str := ["purse", "out_of", "drawn", "figure", "k"]
abbrev P_law_draw : List Str := ["purse", "out_of"]
theorem sc_law_draw : FnScope N_law_draw P_law_draw (defScope s_law_draw) := ⟨rfl, rfl, rfl, by decide +kernel, rfl, by decide +kernel, by decide +kernel⟩

def sp_law_draw : Sp := fun vs H Q _ => ∃ (p : Addr) (m b : Nat), vs = [.ref p, .int m] ∧ Purse H p b ∧ b ≤ 1000000 ∧ 1 ≤ m ∧ m ≤ 1000 ∧ ∀ H' (r : Nat), StayT (wo H p) H' → Purse H' p (b + 1) → r < m → Q (.int r) H'
theorem ok_law_draw (F : FnP K "_law_draw" s_law_draw f fd) (fr : Free mg) (c_law_mixed : Cal P w K mg base "_law_mixed" 1 P_law_mixed sp_law_mixed) : FnOk P w K mg base (L2.CX P w) 2 f fd P_law_draw sp_law_draw := by
  refine F.ok sc_law_draw (fun vs H Q E h => ?_) (fun cdv A outer s H vs Q E hr h => ⟨_, PSs.nox (pss_cons (ps_if (pt_cmpR op_gt (pe_ix ix_seq (pv 0) pe_int (fun _ _ => rfl)) pe_int (nomark _)) (pss_cons (ps_set (i := 2) sc_law_draw.nd rfl (Or.inl rfl) (pe_op op_mod (pe_ix ix_seq (pv 0) pe_int (fun _ _ => rfl)) (pv 1)))
    (pss_cons (ps_asg (pe_op op_fdiv (pe_ix ix_seq (pv 0) pe_int (fun _ _ => rfl)) (pv 1)) (pg_sub (pv 0) pe_int set_list))
    (pss_one (ps_ret (pv 2))))) pss_nil)
    (pss_cons (ps_set (i := 3) sc_law_draw.nd rfl (Or.inl rfl) pe_int)
    (pss_cons (ps_for PassesOwn.never rfl (pi_range1 rfl (fr "range" (by decide)) (pa_cons (pe_op op_add pe_int (pe_op op_fdiv (pe_bits (pv 1)) pe_int)) pa_nil)) (pg_name (i := 4) sc_law_draw.nd rfl (Or.inl rfl)) (pss_cons (ps_asg (pe_op op_add (pe_ix ix_seq (pv 0) pe_int (fun _ _ => rfl)) pe_int) (pg_sub (pv 0) pe_int set_list))
    (pss_one (ps_set (i := 3) sc_law_draw.nd rfl (Or.inl rfl) (pe_op op_add (pe_op op_mul (pv 3) pe_int) (pe_F c_law_mixed (hr.mono (by omega)) (pa_cons (pe_ix ix_seq (pv 0) pe_int (fun _ _ => rfl)) (pa_cons (pe_ix ix_seq (pv 0) pe_int (fun _ _ => rfl)) pa_nil))))))))
    (pss_one (ps_ret (pe_op op_mod (pv 3) (pv 1))))))), ?_⟩)
  · obtain ⟨p, m, b, rfl, _⟩ := h; rfl
  · obtain ⟨p, m, b, rfl, ⟨n, c, k, hp, hk0, hkb⟩, hb, m1, m2, q⟩ := h
    have rd : ∀ {H1 : Hp} {xs : List V} {x : V} {j : Nat} {R : VK}, H1 p = some (.lst xs) → xs[j]? = some x → R x H1 → rIx K (.ref p) (.int (j : Nat)) H1 R := fun e ej r => .inl ⟨p, _, _, _, rfl, rfl, SqL.of e, atI_nat ej, r⟩
    have st : ∀ {H1 : Hp} {o : HO}, StayT (wo H p) H1 → StayT (wo H p) (upd H1 p o) := fun s1 => s1.upd wo_same
    refine ⟨_, rfl, rd hp rfl ⟨_, _, rfl, rfl, _, rfl, ?_⟩⟩
    by_cases z : (0 : Int) < n
    · rw [decide_eq_true z]
      refine iteT ⟨_, rfl, rd hp rfl ⟨_, rfl, _, _, rfl, rfl, by show (0 : Int) < m; omega, ?_⟩⟩
      refine ⟨_, rfl, rd hp rfl ⟨_, rfl, _, _, rfl, rfl, ⟨by omega, by omega⟩, _, rfl, ⟨p, _, _, 0, rfl, rfl, hp, rfl, ?_⟩⟩⟩
      have r0 : 0 ≤ n % (m : Int) := Int.emod_nonneg _ (by omega)
      have r1 : n % (m : Int) < m := Int.emod_lt_of_pos _ (by omega)
      refine ⟨_, rfl, ?_⟩
      have e : V.int (n % (m : Int)) = V.int ((n % (m : Int)).toNat : Nat) := by rw [Int.toNat_of_nonneg r0]
      show Q (.int (n % (m : Int))) _
      rw [e]
      exact q _ _ (st (stay_wo H p)) ⟨_, _, _, upd_same, hk0, by omega⟩ (by omega)
    · rw [decide_eq_false z]
      have bits : ∀ m : Nat, m ≤ 1000 → Builtin.Int.intBits (m : Int) < 30 := by decide +kernel
      have b30 := bits m m2
      have one : (1 : Int) + ((Builtin.Int.intBits (m : Int) : Nat) : Int) / 30 = 1 := by omega
      refine iteF ⟨_, rfl, _, rfl, _, _, rfl, rfl, ⟨by decide, by decide⟩, _, _, rfl, rfl, _, rfl, ?_, ?_, ?_⟩
      · rw [one]; decide
      · rw [one]; decide
      rw [one]
      refine for_it walk_range (fun i σ H1 => ∃ (fig : Int) (v2 v4 : Option V), σ = [some (.ref p), some (.int m), v2, some (.int fig), v4] ∧ StayT (wo H p) H1 ∧ ∃ k1 : Int, H1 p = some (.lst [.int n, .int c, .int k1]) ∧ 0 ≤ k1 ∧ k1 ≤ b + i) ?h0 ?hG ?hs ?hd
      case h0 => exact ⟨0, none, none, rfl, stay_wo H p, k, hp, hk0, by omega⟩
      case hG => intros; trivial
      case hs =>
        rintro i x σ H1 H2 hi ⟨fig, v2, v4, rfl, s1, k1, hp1, h0, h1⟩ ⟨rfl, rfl⟩
        have hi' : i < 1 := hi
        refine ⟨_, rfl, rd hp1 rfl ⟨_, _, rfl, rfl, _, rfl, ⟨p, _, _, 2, rfl, rfl, hp1, rfl, ?_⟩⟩⟩
        refine ⟨_, rfl, _, _, rfl, rfl, .inr (by decide), _, rfl, rd upd_same rfl ⟨_, rfl, rd upd_same rfl ⟨_, _, rfl, ⟨by omega, by omega⟩, fun i2 => ?_⟩⟩⟩
        exact ⟨_, _, rfl, rfl, _, _, _, rfl, st s1, k1 + 1, upd_same, by omega, by omega⟩
      case hd =>
        rintro σ H1 ⟨fig, v2, v4, rfl, s1, k1, hp1, h0, h1⟩
        have r0 : 0 ≤ fig % (m : Int) := Int.emod_nonneg _ (by omega)
        have r1 : fig % (m : Int) < m := Int.emod_lt_of_pos _ (by omega)
        refine ⟨_, rfl, _, rfl, _, _, rfl, rfl, by show (0 : Int) < m; omega, ?_⟩
        have e : V.int (fig % (m : Int)) = V.int ((fig % (m : Int)).toNat : Nat) := by rw [Int.toNat_of_nonneg r0]
        show Q (.int (fig % (m : Int))) _
        rw [e]
        exact q _ _ s1 ⟨_, _, _, hp1, h0, by simpa using h1⟩ (by omega)
end
end WR
namespace WR
open PySem PySem.Spec PyProof.Rows L2
section
variable {P : Program} {w : World} {K : PySem.W.Frag} {mg : Str → Option Value} {base : Heap} {f : Addr} {fd : FuncData} {T : Addr}
theorem Purse.ne {H : Hp} {p a : Addr} {b : Nat} (h : Purse H p b) (n : H a = none) : a ≠ p := fun z => by
  obtain ⟨_, _, _, e, _⟩ := h
  rw [z, e] at n; cases n
theorem Purse.same {H H' : Hp} {p : Addr} {b : Nat} (h : Purse H p b) (e : H' p = H p) : Purse H' p b := by
  obtain ⟨n, c, k, e1, h1, h2⟩ := h
  exact ⟨n, c, k, e.trans e1, h1, h2⟩
theorem Purse.upd {H : Hp} {p a : Addr} {b : Nat} {o : HO} (h : Purse H p b) (n : a ≠ p) : Purse (L2.upd H a o) p b := h.same (upd_ne n.symm)
theorem Purse.mono {H : Hp} {p : Addr} {b b' : Nat} (h : Purse H p b) (l : b ≤ b') : Purse H p b' := by
  obtain ⟨n, c, k, e1, h1, h2⟩ := h
  exact ⟨n, c, k, e1, h1, by omega⟩
/-- what is new under a purse is new beside it -/
theorem wo_new {H : Hp} {p a : Addr} (n : H a = none) : wo H p a = none := by
  by_cases h : a = p
  · rw [h]; exact wo_same
  · rw [wo_ne h]; exact n
theorem seqIndex_nat {r n : Nat} (h : r < n) : seqIndex? (r : Int) n = some r := by
  unfold seqIndex?
  have e : ¬ ((r : Int) < 0) := by omega
  simp [e, h]
theorem tyV_lst {K : PySem.W.Frag} {a : Addr} {xs : List V} {H : Hp} (h : H a = some (.lst xs)) : tyV K "list" (.ref a) H := .inl ⟨rfl, _, SqL.of h⟩
theorem map_erase {α β : Type} (f : α → β) : ∀ (l : List α) (i : Nat), (l.map f).eraseIdx i = (l.eraseIdx i).map f
  | [], _ => rfl
  | _ :: _, 0 => rfl
  | a :: l, i + 1 => congrArg (f a :: ·) (map_erase f l i)
theorem erase_perm {α : Type} : ∀ (l : List α) (i : Nat) (h : i < l.length), (l[i] :: l.eraseIdx i).Perm l
  | [], _, h => absurd h (Nat.not_lt_zero _)
  | _ :: _, 0, _ => List.Perm.refl _
  | a :: l, i + 1, h => by
    have ih := erase_perm l i (Nat.lt_of_succ_lt_succ h)
    exact (List.Perm.swap a _ _).trans (ih.cons a)
def stock : List Str := ["a", "b", "c2", "dd", "e", "f0", "gg", "h", "i9", "longword", "k", "zz", "bar", "road", "fee", "goes", "gift", "comes", "grant"]
/-- the words that most laws draw of -/
def stock12 : List Str := ["a", "b", "c2", "dd", "e", "f0", "gg", "h", "i9", "longword", "k", "zz"]
/-! ### _law_words -/
abbrev s_law_words : Stmt := topS 39
abbrev N_law_words : List Str := ["purse", "many", "stock", "k"]
abbrev P_law_words : List Str := ["purse", "many"]
theorem sc_law_words : FnScope N_law_words P_law_words (defScope s_law_words) := ⟨rfl, rfl, rfl, by decide +kernel, rfl, by decide +kernel, by decide +kernel⟩

def sp_law_words : Sp := fun vs H Q _ => ∃ (p : Addr) (m b : Nat), vs = [.ref p, .int m] ∧ Purse H p b ∧ b ≤ 900000 ∧ m ≤ 12 ∧ ∀ H' a (ns : List Str), StayT (wo H p) H' → Purse H' p (b + m) → H a = none → H' a = some (.lst (ns.map V.str)) → ns.length = m → (∀ x ∈ ns, x ∈ stock) → ns.Nodup → Q (.ref a) H'
theorem ok_law_words (F : FnP K "_law_words" s_law_words f fd) (fr : Free mg) (c_law_draw : Cal P w K mg base "_law_draw" 2 P_law_draw sp_law_draw) : FnOk P w K mg base (L2.CX P w) 3 f fd P_law_words sp_law_words := by
  refine F.ok sc_law_words (fun vs H Q E h => ?_) (fun cdv A outer s H vs Q E hr h => ⟨_, PSs.nox (pss_cons (ps_set (i := 2) sc_law_words.nd rfl (Or.inr rfl) (pe_lst (pa_cons pe_str (pa_cons pe_str (pa_cons pe_str (pa_cons pe_str (pa_cons pe_str (pa_cons pe_str (pa_cons pe_str (pa_cons pe_str (pa_cons pe_str (pa_cons pe_str (pa_cons pe_str (pa_cons pe_str pa_nil))))))))))))))
    (pss_one (ps_ret (pe_lc (own := [("k", 3)]) (g := gName 3) (tt := tYes) rfl sc_law_words.nd (pi_range1 rfl (fr "range" (by decide)) (pa_cons (pv 1) pa_nil)) (blkOk_by (N := N_law_words) (sc := defScope s_law_words) (by decide +kernel)) (fun _ _ _ _ _ => (pg_name (i := 3) sc_law_words.nd rfl (Or.inl rfl))) (fun _ _ _ _ _ => by exact pts_nil) (fun _ _ _ _ _ => by exact (pop_K (pv 2) (pa_cons (pe_F c_law_draw (hr.mono (by omega)) (pa_cons (pv 0) (pa_cons (pe_callB call_len_K (by rfl) (fr "len" (by decide)) (by decide +kernel) (pa_cons (pv 2) pa_nil)) pa_nil))) pa_nil))))))), ?_⟩)
  · obtain ⟨p, m, b, rfl, _⟩ := h; rfl
  · obtain ⟨p, m, b, rfl, hp, hb, hm, q⟩ := h
    refine ⟨by show 12 ≤ sizeLine; decide, fun st nst => ?_⟩
    have st_p : st ≠ p := hp.ne nst
    refine ⟨_, rfl, (m : Int), rfl, by omega, by omega, fun D nD => ?_⟩
    have D_st : D ≠ st := fun z => by rw [z, upd_same] at nD; cases nD
    have nD0 : H D = none := by rw [upd_ne D_st] at nD; exact nD
    have D_p : D ≠ p := hp.ne nD0
    refine lc_it (walk_range (lo := 0) (n := m)) (fun i H1 => ∃ acc rest : List Str, H1 D = some (.lst (acc.map V.str)) ∧ H1 st = some (.lst (rest.map V.str)) ∧ acc.length = i ∧ rest.length = 12 - i ∧ (∀ x ∈ acc, x ∈ stock) ∧ (∀ x ∈ rest, x ∈ stock) ∧ StayT (wo H p) H1 ∧ Purse H1 p (b + i) ∧ (acc ++ rest).Nodup) ?h0 ?hG ?hs ?hd
    case h0 => exact ⟨[], stock12, upd_same, by rw [upd_ne D_st.symm, upd_same]; rfl, rfl, rfl, (fun _ z => by cases z), (by decide +kernel), ((stay_wo H p).upd (wo_new nst)).upd (wo_new nD0), (hp.upd st_p).upd D_p, (by decide +kernel)⟩
    case hG => intros; trivial
    case hs =>
      rintro i x H1 H2 hi ⟨acc, rest, hD, hst, la, lr, ina, inr, s1, hp1, nd⟩ ⟨rfl, rfl⟩
      refine ⟨rfl, yes_go ?_⟩
      refine ⟨_, rfl, tyV_lst hst, _, rfl, _, rfl, _, _, rfl, .inl (SqL.of hst), p, _, b + i, rfl, hp1, by omega, by rw [List.length_map]; omega, by rw [List.length_map]; omega, fun H3 r s3 hp3 hr3 => ?_⟩
      rw [List.length_map] at hr3
      have hst3 : H3 st = some (.lst (rest.map V.str)) := s3.same _ _ (by rw [wo_ne st_p]; exact hst) fun _ z => nomatch z
      have hD3 : H3 D = some (.lst (acc.map V.str)) := s3.same _ _ (by rw [wo_ne D_p]; exact hD) fun _ z => nomatch z
      refine ⟨st, _, (r : Int), r, .str rest[r], rfl, rfl, hst3, by omega, by omega, by rw [List.length_map]; exact seqIndex_nat hr3, by simp [hr3], ?_⟩
      refine ⟨acc.map V.str, by rw [upd_ne D_st]; exact hD3, by rw [List.length_map]; exact Nat.lt_of_le_of_lt (show acc.length ≤ 12 by omega) (by decide), ?_⟩
      refine ⟨acc ++ [rest[r]], rest.eraseIdx r, by simp [upd_same], ?_, by simp [la], ?_, ?_, ?_, ?_, ?_, ?_⟩
      · rw [upd_ne D_st.symm, upd_same, map_erase]
      · rw [List.length_eraseIdx, if_pos hr3]; omega
      · intro y hy
        rcases List.mem_append.mp hy with h | h
        · exact ina y h
        · simp at h; subst h; exact inr _ (List.getElem_mem _)
      · intro y hy
        exact inr y (List.mem_of_mem_eraseIdx hy)
      · exact ((s1.transP s3).upd (wo_new nst)).upd (wo_new nD0)
      · exact ((hp3.upd st_p).upd D_p).mono (by omega)
      · rw [List.append_assoc]
        exact (List.Perm.append_left acc (erase_perm rest r hr3)).nodup_iff.mpr nd
    case hd =>
      rintro H1 ⟨acc, rest, hD, hst, la, lr, ina, inr, s1, hp1, nd⟩
      exact q H1 D acc s1 hp1 nD0 hD la ina (List.nodup_append.mp nd).1
end
end WR
namespace WR
open PySem PySem.Spec PyProof.Rows L2
/-! ## H beside some addresses that change -/
def wl (ms : List Addr) (H : Hp) : Hp := fun b => if b ∈ ms then none else H b
theorem wl_in {ms : List Addr} {H : Hp} {a : Addr} (h : a ∈ ms) : wl ms H a = none := if_pos h
theorem wl_out {ms : List Addr} {H : Hp} {a : Addr} (h : a ∉ ms) : wl ms H a = H a := if_neg h
theorem wl_some {ms : List Addr} {H : Hp} {a : Addr} {o : HO} (e : wl ms H a = some o) : a ∉ ms ∧ H a = some o := by
  by_cases h : a ∈ ms
  · rw [wl_in h] at e; cases e
  · rw [wl_out h] at e; exact ⟨h, e⟩
theorem wl_new {ms : List Addr} {H : Hp} {a : Addr} (n : H a = none) : wl ms H a = none := by
  by_cases h : a ∈ ms
  · exact wl_in h
  · rw [wl_out h]; exact n
theorem wl_upd_in {ms : List Addr} {H : Hp} {a : Addr} {o : HO} (h : a ∈ ms) : wl ms (upd H a o) = wl ms H := by
  funext b
  by_cases hb : b ∈ ms
  · rw [wl_in hb, wl_in hb]
  · rw [wl_out hb, wl_out hb, upd_ne fun z => hb (by rw [z]; exact h)]
theorem wl_upd_out {ms : List Addr} {H : Hp} {a : Addr} {o : HO} (h : a ∉ ms) : wl ms (upd H a o) = upd (wl ms H) a o := by
  funext b
  by_cases hb : b = a
  · rw [hb, wl_out h, upd_same, upd_same]
  · by_cases hm : b ∈ ms
    · rw [wl_in hm, upd_ne hb, wl_in hm]
    · rw [wl_out hm, upd_ne hb, upd_ne hb, wl_out hm]
theorem stay_wl (ms : List Addr) (H : Hp) : StayT (wl ms H) H := ⟨fun b o e _ => (wl_some e).2, fun b ps e => ⟨ps, (wl_some e).2, id⟩⟩
theorem wl_draw {ms : List Addr} {H H' : Hp} {p : Addr} (s : StayT (wo H p) H') (hp : p ∈ ms) : StayT (wl ms H) (wl ms H') := by
  refine ⟨fun b o e n => ?_, fun b ps e => ?_⟩
  · obtain ⟨h1, h2⟩ := wl_some e
    rw [wl_out h1]
    exact s.same _ _ (by rw [wo_ne fun z => h1 (by rw [z]; exact hp)]; exact h2) n
  · obtain ⟨h1, h2⟩ := wl_some e
    rw [wl_out h1]
    exact s.tab _ _ (by rw [wo_ne fun z => h1 (by rw [z]; exact hp)]; exact h2)
theorem wl_stay {ms : List Addr} {H H' : Hp} (s : StayT H H') : StayT (wl ms H) (wl ms H') := by
  refine ⟨fun b o e n => ?_, fun b ps e => ?_⟩
  · obtain ⟨h1, h2⟩ := wl_some e
    rw [wl_out h1]
    exact s.same _ _ h2 n
  · obtain ⟨h1, h2⟩ := wl_some e
    rw [wl_out h1]
    exact s.tab _ _ h2
theorem wl_more {ms : List Addr} {H : Hp} {a : Addr} (n : H a = none) : StayT (wl ms H) (wl (a :: ms) H) := by
  have k : ∀ b, b ∉ ms → H b ≠ none → b ∉ a :: ms := fun b h1 h2 h3 => by
    rcases List.mem_cons.mp h3 with z | z
    · rw [z] at h2; exact h2 n
    · exact h1 z
  refine ⟨fun b o e _ => ?_, fun b ps e => ⟨ps, ?_, id⟩⟩
  · obtain ⟨h1, h2⟩ := wl_some e
    rw [wl_out (k b h1 (by rw [h2]; simp))]; exact h2
  · obtain ⟨h1, h2⟩ := wl_some e
    rw [wl_out (k b h1 (by rw [h2]; simp))]; exact h2
/-- what is new -/
theorem wl_alloc {ms : List Addr} {H : Hp} {a : Addr} {o : HO} (n : H a = none) : StayT (wl ms H) (wl ms (upd H a o)) := by
  by_cases h : a ∈ ms
  · rw [wl_upd_in h]; exact StayT.refl _
  · rw [wl_upd_out h]; exact (StayT.refl _).new (wl_new n)
/-- a tuple made of data -/
theorem dv_made {ms : List Addr} {H : Hp} {a : Addr} {vs : List V} {ds : List PyData} (n : H a = none) (h : a ∉ ms) (d : DVs (wl ms H) vs ds) (l : ds.length ≤ 1000) : DV (wl ms (upd H a (.tup vs))) (.ref a) (.tuple ds) := by
  refine .tup ?_ (d.stay (wl_alloc n)) l
  rw [wl_upd_out h, upd_same]
theorem dv_madeL {ms : List Addr} {H : Hp} {a : Addr} {vs : List V} {ds : List PyData} (n : H a = none) (h : a ∉ ms) (d : DVs (wl ms H) vs ds) (l : ds.length ≤ 1000) : DV (wl ms (upd H a (.lst vs))) (.ref a) (.list ds) := by
  refine .lst ?_ (d.stay (wl_alloc n)) l
  rw [wl_upd_out h, upd_same]
theorem DV.out {ms : List Addr} {H : Hp} {v : V} {d : PyData} (h : DV (wl ms H) v d) : DV H v d := h.stay (stay_wl ms H)
theorem DVs.out {ms : List Addr} {H : Hp} {v : List V} {d : List PyData} (h : DVs (wl ms H) v d) : DVs H v d := h.stay (stay_wl ms H)
/-- what a draw leaves -/
theorem drawn_keeps {H H' : Hp} {p a : Addr} {xs : List V} (s : StayT (wo H p) H') (n : a ≠ p) (e : H a = some (.lst xs)) : H' a = some (.lst xs) := s.same _ _ (by rw [wo_ne n]; exact e) fun _ z => nomatch z
theorem units1 {k : Nat} {A : Around} (h : Room k A) : A.units + 65 < cLine := by have := h.un; omega
theorem DVs.snoc {H : Hp} {vs : List V} {ds : List PyData} {v : V} {d : PyData} (h : DVs H vs ds) (e : DV H v d) : DVs H (vs ++ [v]) (ds ++ [d]) := h.append (.one e)
theorem all_snoc {α : Type} {q : α → Prop} {l : List α} {x : α} (h : ∀ y ∈ l, q y) (hx : q x) : ∀ y ∈ l ++ [x], q y := fun y hy => by
  rcases List.mem_append.mp hy with z | z
  · exact h y z
  · simp at z; subst z; exact hx
theorem wl_less {ms : List Addr} {H : Hp} {a : Addr} : StayT (wl (a :: ms) H) (wl ms H) := by
  refine ⟨fun b o e _ => ?_, fun b ps e => ⟨ps, ?_, id⟩⟩
  · obtain ⟨h1, h2⟩ := wl_some e
    rw [wl_out fun z => h1 (List.mem_cons_of_mem _ z)]; exact h2
  · obtain ⟨h1, h2⟩ := wl_some e
    rw [wl_out fun z => h1 (List.mem_cons_of_mem _ z)]; exact h2
end WR
namespace WR
open PySem PySem.Spec PyProof.Rows L2
theorem stock_ok : ∀ x ∈ stock, x.length ≤ 8 ∧ PySem.PyData.strOk x = true := by decide +kernel
theorem dv_word {H : Hp} {x : Str} (h : x ∈ stock) : DV H (.str x) (.str x) := .str (Nat.le_trans (stock_ok x h).1 (by decide)) (stock_ok x h).2
theorem dvs_words {H : Hp} : ∀ {l : List Str}, (∀ x ∈ l, x ∈ stock) → DVs H (l.map V.str) (l.map PyData.str)
  | [], _ => .nil
  | a :: l, h => .cons (dv_word (h a List.mem_cons_self)) (dvs_words fun x hx => h x (List.mem_cons_of_mem _ hx))
def PairD (d : PyData) : Prop := ∃ x y, x ∈ stock ∧ y ∈ stock ∧ d = .tuple [.str x, .str y]
def coins : List Nat := [0, 1, 2, 3, 4, 5, 1000000]
def HomeD (d : PyData) : Prop := ∃ x, x ∈ stock ∧ ∃ i : Nat, i ∈ coins ∧ d = .tuple [.str x, .int i]
def TownD (d : PyData) : Prop := ∃ hs rs, d = .tuple [.tuple hs, .tuple rs] ∧ hs.length ≤ 8 ∧ rs.length ≤ 20 ∧ (∀ e ∈ hs, HomeD e) ∧ ∀ e ∈ rs, PairD e
def StandD (d : PyData) : Prop := ∃ l, d = .tuple l ∧ l.length ≤ 8 ∧ ∀ e ∈ l, HomeD e ∨ e = .tuple []
theorem pick_int {H : Hp} {a : Addr} {l : List Int} {r : Nat} {R : VK} (e : H a = some (.lst (l.map V.int))) (hl : l.length ≤ 1000) (hr : r < l.length) (q : ∀ i ∈ l, R (.int i) H) : rItemD (.ref a) (.int (r : Int)) H R := by
  have d : ∀ l : List Int, DVs H (l.map V.int) (l.map PyData.int) := fun l => by
    induction l with
    | nil => exact .nil
    | cons a l ih => exact .cons (.int a) ih
  refine ⟨.list (l.map PyData.int), .int l[r], r, .lst e (d l) (by rw [List.length_map]; exact hl), rfl, by simp [itemD, hr], fun v hv => ?_⟩
  cases dv_int hv
  exact q _ (List.getElem_mem _)
theorem pick_any {H : Hp} {a : Addr} {xs : List V} {ds : List PyData} {r : Nat} {R : VK} (e : H a = some (.lst xs)) (d : DVs H xs ds) (hl : ds.length ≤ 1000) (hr : r < ds.length) (q : ∀ v d, d ∈ ds → DV H v d → R v H) : rItemD (.ref a) (.int (r : Int)) H R :=
  ⟨.list ds, ds[r], r, .lst e d hl, rfl, by simp [itemD, hr], fun v hv => q v _ (List.getElem_mem _) hv⟩
theorem pick_word {H : Hp} {a : Addr} {l : List Str} {r : Nat} {R : VK} (e : H a = some (.lst (l.map V.str))) (hl : l.length ≤ 1000) (hr : r < l.length) (hs : ∀ x ∈ l, x ∈ stock) (q : ∀ x ∈ l, R (.str x) H) : rItemD (.ref a) (.int (r : Int)) H R := by
  refine ⟨.list (l.map PyData.str), .str l[r], r, .lst e (dvs_words hs) (by rw [List.length_map]; exact hl), rfl, by simp [itemD, hr], fun v hv => ?_⟩
  cases dv_str hv
  exact q _ (List.getElem_mem _)
theorem pick_wordE {H : Hp} {a : Addr} {l : List Str} {r : Nat} {y : V} {R : VK} (ey : y = .int (r : Int)) (e : H a = some (.lst (l.map V.str))) (hl : l.length ≤ 1000) (hr : r < l.length) (hs : ∀ x ∈ l, x ∈ stock) (q : ∀ x ∈ l, R (.str x) H) : rItemD (.ref a) y H R := by
  subst ey
  exact pick_word e hl hr hs q
end WR
namespace WR
open PySem PySem.Spec PyProof.Rows L2
/-! ## plain data: no dict, not deep, its text not long -/
structure Pl (n m : Nat) (d : PyData) : Prop where
  hd : d.hasDict = false
  dp : d.depth ≤ n
  sh : d.showable = true
  le : d.shown.length ≤ m
theorem pl_all {n m : Nat} : ∀ {l : List PyData}, (∀ e ∈ l, Pl n m e) → PyData.hasDictAll l = false ∧ PyData.depthAll l ≤ n ∧ PyData.showableAll l = true ∧ (∀ t ∈ PyData.shownAll l, t.length ≤ m) ∧ (PyData.shownAll l).length = l.length
  | [], _ => ⟨rfl, Nat.zero_le _, rfl, (fun _ z => by cases z), rfl⟩
  | a :: l, h => by
    obtain ⟨h1, h2, h3, h4, h5⟩ := pl_all fun e he => h e (List.mem_cons_of_mem _ he)
    have ha := h a List.mem_cons_self
    refine ⟨?_, ?_, ?_, ?_, ?_⟩
    · simp only [PyData.hasDictAll, ha.hd, h1, Bool.or_self]
    · simp only [PyData.depthAll]; exact Nat.max_le.mpr ⟨ha.dp, h2⟩
    · simp only [PyData.showableAll, ha.sh, h3, Bool.and_self]
    · intro t ht
      simp only [PyData.shownAll, List.mem_cons] at ht
      rcases ht with rfl | ht
      · exact ha.le
      · exact h4 t ht
    · simp only [PyData.shownAll, List.length_cons, h5]
theorem join_le {m : Nat} : ∀ {ts : List Str}, (∀ t ∈ ts, t.length ≤ m) → ((Str.ofString ", ").join ts).length ≤ ts.length * (m + 2)
  | [], _ => Nat.zero_le _
  | [a], h => by
    have := h a List.mem_cons_self
    simp only [Str.join, List.length_cons, List.length_nil]
    omega
  | a :: b :: r, h => by
    have ha := h a List.mem_cons_self
    have hr := join_le (ts := b :: r) fun t ht => h t (List.mem_cons_of_mem _ ht)
    have e : (Str.ofString ", ").join (a :: b :: r) = a ++ Str.ofString ", " ++ (Str.ofString ", ").join (b :: r) := rfl
    have e2 : (Str.ofString ", ").length = 2 := by decide +kernel
    rw [e, Str.length_append, Str.length_append, e2]
    have e3 : (a :: b :: r).length = (b :: r).length + 1 := rfl
    rw [e3, Nat.succ_mul]
    omega
theorem pl_tuple {n m c : Nat} {l : List PyData} (h : ∀ e ∈ l, Pl n m e) (hl : l.length ≤ c) : Pl (n + 1) (c * (m + 2) + 3) (.tuple l) := by
  obtain ⟨h1, h2, h3, h4, h5⟩ := pl_all h
  refine ⟨by simp only [PyData.hasDict, h1], by simp only [PyData.depth]; omega, by simp only [PyData.showable, h3], ?_⟩
  have j := join_le h4
  have k : (PyData.shownAll l).length * (m + 2) ≤ c * (m + 2) := Nat.mul_le_mul_right _ (by omega)
  simp only [PyData.shown, tupleText]
  rw [Str.length_append, Str.length_append]
  have e1 : (Str.ofString "(").length = 1 := by decide +kernel
  have e2 : (Str.ofString (if ((PyData.shownAll l).length == 1) = true then ",)" else ")")).length ≤ 2 := by
    split <;> decide +kernel
  omega
theorem pl_list {n m c : Nat} {l : List PyData} (h : ∀ e ∈ l, Pl n m e) (hl : l.length ≤ c) : (PyData.list l).hasDict = false ∧ (PyData.list l).depth ≤ n + 1 ∧ (PyData.list l).showable = true := by
  obtain ⟨h1, h2, h3, h4, h5⟩ := pl_all h
  exact ⟨by simp only [PyData.hasDict, h1], by simp only [PyData.depth]; omega, by simp only [PyData.showable, h3]⟩
theorem pl_word {x : Str} (h : x ∈ stock) : Pl 0 20 (.str x) := by
  refine ⟨rfl, Nat.le_refl _, rfl, ?_⟩
  have : ∀ x ∈ stock, (reprText x).length ≤ 20 := by decide +kernel
  exact this x h
theorem pl_coin {i : Nat} (h : i ∈ coins) : Pl 0 20 (.int (i : Int)) := by
  have : ∀ i ∈ coins, (((i : Int).natAbs.log2 < 1920) : Prop) ∧ (PyData.int (i : Int)).shown.length ≤ 20 := by decide +kernel
  obtain ⟨h1, h2⟩ := this i h
  exact ⟨rfl, Nat.le_refl _, by simp only [PyData.showable]; exact decide_eq_true h1, h2⟩
theorem pl_pair {d : PyData} (h : PairD d) : Pl 1 50 d := by
  obtain ⟨x, y, hx, hy, rfl⟩ := h
  have := pl_tuple (n := 0) (m := 20) (c := 2) (l := [.str x, .str y]) (fun e he => by
    rcases List.mem_cons.mp he with rfl | he
    · exact pl_word hx
    · rcases List.mem_cons.mp he with rfl | he
      · exact pl_word hy
      · cases he) (Nat.le_refl _)
  exact ⟨this.hd, this.dp, this.sh, Nat.le_trans this.le (by decide)⟩
theorem pl_home {d : PyData} (h : HomeD d) : Pl 1 50 d := by
  obtain ⟨x, hx, i, hi, rfl⟩ := h
  have := pl_tuple (n := 0) (m := 20) (c := 2) (l := [.str x, .int i]) (fun e he => by
    rcases List.mem_cons.mp he with rfl | he
    · exact pl_word hx
    · rcases List.mem_cons.mp he with rfl | he
      · exact pl_coin hi
      · cases he) (Nat.le_refl _)
  exact ⟨this.hd, this.dp, this.sh, Nat.le_trans this.le (by decide)⟩
theorem Pl.mono {n m n' m' : Nat} {d : PyData} (h : Pl n m d) (a : n ≤ n') (b : m ≤ m') : Pl n' m' d := ⟨h.hd, Nat.le_trans h.dp a, h.sh, Nat.le_trans h.le b⟩
theorem pl_town {d : PyData} (h : TownD d) : Pl 3 4000 d := by
  obtain ⟨hs, rs, rfl, h1, h2, h3, h4⟩ := h
  have a := (pl_tuple (c := 20) (fun e he => pl_home (h3 e he)) (by omega)).mono (n' := 2) (m' := 1200) (by decide) (by decide)
  have b := (pl_tuple (c := 20) (fun e he => pl_pair (h4 e he)) h2).mono (n' := 2) (m' := 1200) (by decide) (by decide)
  refine (pl_tuple (n := 2) (m := 1200) (c := 2) (l := [.tuple hs, .tuple rs]) (fun e he => ?_) (Nat.le_refl _)).mono (by decide) (by decide)
  rcases List.mem_cons.mp he with rfl | he
  · exact a
  · rcases List.mem_cons.mp he with rfl | he
    · exact b
    · cases he
theorem pl_stand {d : PyData} (h : StandD d) : Pl 3 4000 d := by
  obtain ⟨l, rfl, h1, h2⟩ := h
  refine (pl_tuple (n := 1) (m := 50) (c := 20) (fun e he => ?_) (by omega)).mono (by decide) (by decide)
  rcases h2 e he with z | rfl
  · exact pl_home z
  · exact (pl_tuple (n := 0) (m := 0) (c := 0) (l := []) (fun _ z => by cases z) (Nat.le_refl _)).mono (by decide) (by decide)
theorem dp_pair {K : PySem.W.Frag} {H : Hp} {v : V} {d : PyData} (h : DV H v d) (p : PairD d) : Dp K H v d ∧ SeqAt.shaped d = true := ⟨h.dp (pl_pair p).hd, shaped_D h (pl_pair p).hd (Nat.le_trans (pl_pair p).dp (by decide))⟩
theorem dp_pairs {K : PySem.W.Frag} {H : Hp} {a : Addr} {xs : List V} {l : List PyData} (e : H a = some (.lst xs)) (h : DVs H xs l) (p : ∀ d ∈ l, PairD d) (hl : l.length ≤ 1000) : Dp K H (.ref a) (.list l) ∧ SeqAt.shaped (.list l) = true := by
  obtain ⟨h1, h2, _⟩ := pl_list (fun e he => pl_pair (p e he)) (Nat.le_refl l.length)
  have dv : DV H (.ref a) (.list l) := .lst e h hl
  exact ⟨dv.dp h1, shaped_D dv h1 (Nat.le_trans h2 (by decide))⟩
theorem iteB {b : Bool} {A B : Prop} (h1 : A) (h2 : B) : if b = true then A else B := by
  cases b
  · exact iteF h2
  · exact iteT h1
theorem pair_wl {G : Hp} {v : V} {e : PyData} {ms : List Addr} (h : DV G v e) (p : PairD e) (hm : ∀ m ∈ ms, ∃ xs, G m = some (.lst xs)) : DV (wl ms G) v e := by
  obtain ⟨x, y, hx, hy, rfl⟩ := p
  obtain ⟨a, xs, rfl, ha, hxs, hl⟩ := dv_tup h
  cases hxs with
  | @cons va xs1 d1 ds1 h1 t0 =>
  cases t0 with
  | @cons vb xs2 d2 ds2 h2 t1 =>
  cases t1
  cases dv_str h1
  cases dv_str h2
  refine .tup ?_ (.two (dv_word hx) (dv_word hy)) hl
  rw [wl_out fun z => ?_]
  · exact ha
  · obtain ⟨xs, e⟩ := hm a z
    rw [ha] at e; cases e
theorem stand_wl {G : Hp} {v : V} {e : PyData} {ms : List Addr} (h : DV G v e) (p : HomeD e ∨ e = .tuple []) (hm : ∀ m ∈ ms, ∃ xs, G m = some (.lst xs)) : DV (wl ms G) v e := by
  rcases p with ⟨x, hx, i, hi, rfl⟩ | rfl
  · obtain ⟨a, xs, rfl, ha, hxs, hl⟩ := dv_tup h
    cases hxs with
    | @cons va xs1 d1 ds1 h1 t0 =>
    cases t0 with
    | @cons vb xs2 d2 ds2 h2 t1 =>
    cases t1
    cases dv_str h1
    cases dv_int h2
    refine .tup ?_ (.two (dv_word hx) (.int _)) hl
    rw [wl_out fun z => ?_]
    · exact ha
    · obtain ⟨xs, e⟩ := hm a z
      rw [ha] at e; cases e
  · obtain ⟨a, xs, rfl, ha, hxs, hl⟩ := dv_tup h
    cases hxs
    refine .tup ?_ .nil hl
    rw [wl_out fun z => ?_]
    · exact ha
    · obtain ⟨xs, e⟩ := hm a z
      rw [ha] at e; cases e
end WR
namespace WR
open PySem PySem.Spec PyProof.Rows L2
/-! ## [.. for x in ..] that builds data -/
theorem lc_build {J : It} {n : Nat} {G : Hp → Prop} {xs : List V} (wk : L2.Walk J n G (YAt xs)) {te : TE} {j : Nat} {σ : L2.St} {H : Hp} {D : Addr} {Qd : Hp → Prop} (full : List PyData) (hf : full.length = n) (nD : H D = none) (jl : j < σ.length) (hn : n ≤ 1000)
    (hG : ∀ H1, StayT H H1 → G H1)
    (ht : ∀ i x H1 d, i < n → xs[i]? = some x → full[i]? = some d → StayT H H1 → (∃ vs, H1 D = some (.lst vs)) → ∀ R : V → Hp → Prop, (∀ H2 y, StayT H1 H2 → DV (wl [D] H2) y d → R y H2) → te ((wipe σ [j]).set j (some x)) H1 R)
    (hd : ∀ H1 vs, StayT H H1 → H1 D = some (.lst vs) → DVs (wl [D] H1) vs full → Qd H1) :
    ∃ W : Nat → Nat → Hp → Prop, (∃ m, W 0 m (upd H D (.lst []))) ∧ ∀ i m H, W i m H → J.stop i H ∧ Qd H ∨ J.go i H ∧ ∃ Nx : Hp → Prop, (∀ H', Nx H' → ∃ m', m' < m ∧ W (i + 1) m' H') ∧
      ∀ x H', J.yld i H x H' → gName j x (wipe σ [j]) H' fun σ2 H2 => wipe σ2 [j] = wipe σ [j] ∧ tYes σ2 H2 fun b H3 => if b = true then te σ2 H3 fun y H4 => ∃ acc, H4 D = some (.lst acc) ∧ acc.length < sizeLine ∧ Nx (upd H4 D (.lst (acc ++ [y]))) else Nx H3 := by
  refine lc_it (g := gName j) (vs := [j]) wk (fun i H1 => StayT H H1 ∧ ∃ vs, H1 D = some (.lst vs) ∧ DVs (wl [D] H1) vs (full.take i)) ?h0 ?hG ?hs ?hd
  case h0 => exact ⟨(StayT.refl H).new nD, [], upd_same, .nil⟩
  case hG => exact fun i H1 _ h => hG H1 h.1
  case hs =>
    rintro i x _ H1 hi ⟨s1, vs, hD, hvs⟩ ⟨rfl, hx⟩
    have e : wipe ((wipe σ [j]).set j (some x)) [j] = wipe σ [j] := by rw [wipe_one]; show (σ.set j none).set j none = _; rw [List.set_set]; rfl
    obtain ⟨d, hd⟩ : ∃ d, full[i]? = some d := ⟨_, List.getElem?_eq_getElem (by omega)⟩
    refine ⟨e, yes_go (ht i x H1 d hi hx hd s1 ⟨vs, hD⟩ _ fun H2 y s2 dy => ?_)⟩
    have lv : vs.length = (full.take i).length := hvs.length
    rw [List.length_take] at lv
    have in1 : D ∈ [D] := List.mem_singleton.mpr rfl
    refine ⟨vs, s2.same _ _ hD (fun _ z => nomatch z), Nat.lt_of_le_of_lt (show vs.length ≤ 1000 by omega) (by decide), (s1.trans s2).upd nD, vs ++ [y], upd_same, ?_⟩
    rw [wl_upd_in in1, List.take_add_one, hd]
    exact (hvs.stay (wl_stay s2)).snoc dy
  case hd =>
    rintro H1 ⟨s1, vs, hD, hvs⟩
    rw [← hf, List.take_length] at hvs
    exact hd H1 vs s1 hD hvs
end WR
namespace WR
open PySem PySem.Spec PyProof.Rows L2
section
variable {P : Program} {w : World} {K : PySem.W.Frag} {mg : Str → Option Value} {base : Heap} {f : Addr} {fd : FuncData} {T : Addr}
/-! ### hands_at -/
abbrev s_hands_at : Stmt := topS 22
abbrev N_hands_at : List Str := ["standing", "there"]
abbrev P_hands_at : List Str := ["standing"]
theorem sc_hands_at : FnScope N_hands_at P_hands_at (defScope s_hands_at) := ⟨rfl, rfl, rfl, by decide +kernel, rfl, by decide +kernel, by decide +kernel⟩

def sp_hands_at : Sp := fun vs H Q _ => ∃ (v2 : V) (st : List PyData), vs = [v2] ∧ DV H v2 (.tuple st) ∧ (∀ d ∈ st, isUnit d = true ∨ isEntry d = true) ∧
  ∀ H' D (us : List V), StayT H H' → H D = none → H' D = some (.lst us) → DVs (wl [D] H') us (st.map fun d => .str (entryName d)) → Q (.ref D) H'
theorem ok_hands_at (F : FnP K "hands_at" s_hands_at f fd) (fr : Free mg) :
    FnOk P w K mg base (L2.CX P w) 1 f fd P_hands_at sp_hands_at := by
  refine F.ok sc_hands_at (fun vs H Q E h => ?_) (fun cdv A outer s H vs Q E hr h => ⟨_, PSs.nox (pss_one (ps_ret (pe_lc (own := [("there", 1)]) (g := gName 1) (tt := tYes) rfl sc_hands_at.nd (pi_tup (pv 0)) (blkOk_by (N := N_hands_at) (sc := defScope s_hands_at) (by decide +kernel)) (fun _ _ _ _ _ => (pg_name (i := 1) sc_hands_at.nd rfl (Or.inl rfl))) (fun _ _ _ _ _ => by exact pts_nil) (fun _ _ _ _ _ => by exact (pe_ifExp (truth_K (pv 1) (by intro _; rfl)) (pe_ix ix_D (pv 1) pe_int (fun _ _ => rfl)) pe_str))))), ?_⟩)
  · obtain ⟨v2, st, rfl, _⟩ := h; rfl
  · obtain ⟨v2, st, rfl, hd2, hs, q⟩ := h
    obtain ⟨as, xs, rfl, has, hxs, hl⟩ := dv_tup hd2
    have l2 := hxs.length
    refine ⟨_, rfl, as, rfl, ⟨_, SqT.of has⟩, fun D nD => ?_⟩
    refine lc_build (walk_tup (xs := xs)) (st.map fun d => .str (entryName d)) (by rw [List.length_map]; omega) nD (by show 1 < 2; decide) (by omega) (fun H2 s2 => SqT.of (s2.same _ _ has fun _ z => nomatch z)) (fun i x H2 d hi hx hd s2 hD R r => ?_) (fun H2 vs s2 hD hvs => ?_)
    · obtain ⟨dw, hh2, hdy, _, _⟩ := dvs_at hxs hx
      have ed : d = .str (entryName dw) := by
        rw [List.getElem?_map, hh2] at hd
        exact (Option.some.inj hd).symm
      subst ed
      have ent := hs dw (List.mem_of_getElem? hh2)
      obtain ⟨yl, rfl⟩ : ∃ yl, dw = .tuple yl := by
        rcases ent with u | u
        · cases dw with
          | tuple l => exact ⟨l, rfl⟩
          | _ => cases u
        · obtain ⟨n, i, e, _⟩ := entry_shape u
          exact ⟨_, e⟩
      obtain ⟨ya, ys, rfl, hya, hys, _⟩ := dv_tup hdy
      have hya2 := s2.same _ _ hya fun _ z => nomatch z
      have hdy2 := hdy.stay s2
      refine ⟨_, rfl, _, .inr (.inl ⟨ys, SqT.of hya2, rfl⟩), ?_⟩
      cases hys with
      | nil => exact iteF (r H2 _ (StayT.refl _) (.str (by decide +kernel) (by decide +kernel)))
      | @cons va ys0 a1 yl0 hva t0 =>
      rcases ent with u0 | u0
      · cases u0
      obtain ⟨n1, w1, e1, nm, _⟩ := entry_shape u0
      cases e1
      refine iteT ⟨_, rfl, _, .str n1, 0, hdy2, rfl, rfl, fun v3 hv3 => ?_⟩
      cases dv_str hv3
      exact r H2 _ (StayT.refl _) (by cases hv3 with | str a b => exact .str a b)
    · exact q _ _ vs s2 nD hD hvs
/-! ### stands_of -/
abbrev s_stands_of : Stmt := topS 24
abbrev N_stands_of : List Str := ["town", "standing"]
abbrev P_stands_of : List Str := ["town", "standing"]
theorem sc_stands_of : FnScope N_stands_of P_stands_of (defScope s_stands_of) := ⟨rfl, rfl, rfl, by decide +kernel, rfl, by decide +kernel, by decide +kernel⟩

def sp_stands_of (T CT CS : Addr) : Sp := fun vs H Q E => ∃ v d v2 d2, vs = [v, v2] ∧ DV H v d ∧ DV H v2 d2 ∧ TG T H ∧ (∀ st, d2 = .tuple st → townWrong d = .none → standingWrong d d2 = .none → ∀ H' r, StayT H H' → DV H' r (.tuple (st.map fun d => .str (entryName d))) → Q r H') ∧
  (townWrong d ≠ .none → RaisesF CT "wrong" (townWrong d) H E) ∧ (townWrong d = .none → standingWrong d d2 ≠ .none → RaisesF CS "wrong" (standingWrong d d2) H E)
theorem ok_stands_of2 {CT CS : Addr} (F : FnP K "stands_of" s_stands_of f fd) (fr : Free mg) (c_check_standing : Cal P w K mg base "check_standing" 7 P_check_standing (sp_check_standing T CT CS)) (c_hands_at : Cal P w K mg base "hands_at" 1 P_hands_at sp_hands_at) :
    FnOk P w K mg base (L2.CX P w) 8 f fd P_stands_of (sp_stands_of T CT CS) := by
  refine F.ok sc_stands_of (fun vs H Q E h => ?_) (fun cdv A outer s H vs Q E hr h => ⟨_, (pss_cons (ps_expr (pe_X (W := fun cls d _ H => E cls d H) c_check_standing (hr.mono (by omega)) (takes_of (E := E) rfl rfl rfl rfl) (pa_cons (pv 0) (pa_cons (pv 1) pa_nil))))
    (pss_one (ps_ret (pe_callTy call_tuple_of (by rfl) (fr "tuple" (by decide)) (by decide +kernel) (pa_cons (pe_F c_hands_at (hr.mono (by omega)) (pa_cons (pv 1) pa_nil)) pa_nil))))), ?_⟩)
  · obtain ⟨v, d, v2, d2, rfl, _⟩ := h; rfl
  · obtain ⟨v, d, v2, d2, rfl, hd, hd2, tg, q, x⟩ := h
    refine ⟨v, rfl, v2, rfl, v, d, v2, d2, rfl, hd, hd2, tg, fun tw sw H1 s1 => ?_, x⟩
    obtain ⟨hm, rs, st, rfl, rfl, len, he, hs, nd⟩ := standing_shape tw sw
    replace q := q st rfl tw sw
    have hl : st.length ≤ 1000 := by
      obtain ⟨_, _, _, _, _, hl⟩ := dv_tup hd2
      exact hl
    refine ⟨v2, rfl, v2, st, rfl, hd2.stay s1, hs, fun H2 D us s2 nD hD hus => ?_⟩
    refine ⟨D, us, rfl, .inl ⟨SqL.of hD, fun t nt => ?_⟩⟩
    refine q _ _ (s1.trans (s2.new nt)) (.tup upd_same (hus.out.stay ((StayT.refl _).new nt)) (by rw [List.length_map]; exact hl))
end
end WR
namespace WR
open PySem PySem.Spec PyProof.Rows L2
/-! ## one exchange, over data -/
def held (d : PyData) : Prop := d = .tuple [] ∨ ∃ n c, d = .tuple [.str n, .int c]
theorem held_of {d : PyData} (h : isUnit d = true ∨ isEntry d = true) : held d := by
  rcases h with u | u
  · left
    cases d with
    | tuple l => cases l with
      | nil => rfl
      | cons _ _ => cases u
    | _ => cases u
  · obtain ⟨n, i, e, _⟩ := entry_shape u
    exact .inr ⟨n, i, e⟩
def movedD (d : PyData) (r : Int) : PyData := match d with
  | .tuple [.str n, .int c] => .tuple [.str n, .int (c - r)]
  | _ => .tuple []
def absI (i : Int) : Int := if i < 0 then -i else i
def shortOf (there : PyData) (rise : Int) : PyData := match there with
  | .tuple [.str n, .int c] => if absI rise ≤ c then .none else .tuple [.str n, .int (absI rise - c)]
  | _ => .none
theorem shortOf_eq (n : Str) (c r : Int) : shortOf (.tuple [.str n, .int c]) r = if absI r ≤ c then .none else .tuple [.str n, .int (absI r - c)] := rfl
def riseOf (hm : List PyData) (i j : Nat) : Int := worthOf (hm.getD j .none) - worthOf (hm.getD i .none)
def shortD (hm st : List PyData) (i j : Nat) : PyData := shortOf (if 0 < riseOf hm i j then st.getD i .none else st.getD j .none) (riseOf hm i j)
section
variable {P : Program} {w : World} {K : PySem.W.Frag} {mg : Str → Option Value} {base : Heap} {f : Addr} {fd : FuncData} {T : Addr}
/-! ### moved -/
abbrev s_moved : Stmt := topS 28
abbrev N_moved : List Str := ["there", "rise", "hand", "coins"]
abbrev P_moved : List Str := ["there", "rise"]
theorem sc_moved : FnScope N_moved P_moved (defScope s_moved) := ⟨rfl, rfl, rfl, by decide +kernel, rfl, by decide +kernel, by decide +kernel⟩

def sp_moved : Sp := fun vs H Q _ => ∃ (v : V) (d : PyData) (r : Int), vs = [v, .int r] ∧ DV H v d ∧ held d ∧ ∀ H' u, StayT H H' → DV H' u (movedD d r) → Q u H'
theorem ok_moved (F : FnP K "moved" s_moved f fd) (fr : Free mg) : FnOk P w K mg base (L2.CX P w) 1 f fd P_moved sp_moved := by
  refine F.ok sc_moved (fun vs H Q E h => ?_) (fun cdv A outer s H vs Q E hr h => ⟨_, PSs.nox (pss_cons (ps_if (pt_cmpR (op_eqU hr.units0) (pv 0) (pe_tup pa_nil) (nomark _)) (pss_one (ps_ret (pe_tup pa_nil))) pss_nil)
    (pss_cons (ps_asg (pv 0) (pg_tup rfl (pgs_cons (pg_name (i := 2) sc_moved.nd rfl (Or.inl rfl)) (pgs_cons (pg_name (i := 3) sc_moved.nd rfl (Or.inl rfl)) pgs_nil))))
    (pss_one (ps_ret (pe_tup (pa_cons (pv 2) (pa_cons (pe_op op_sub (pv 3) (pv 1)) pa_nil))))))), ?_⟩)
  · obtain ⟨v, d, r, rfl, _⟩ := h; rfl
  · obtain ⟨v, d, r, rfl, hd, hh, q⟩ := h
    refine ⟨v, rfl, by show 0 ≤ sizeLine; decide, fun u nu => ?_⟩
    have s1 := (StayT.refl H).new (o := .tup []) nu
    refine ⟨d, u, hd.stay s1, rfl, upd_same, _, rfl, ?_⟩
    rcases hh with rfl | ⟨n, c, rfl⟩
    · refine iteT ⟨by show 0 ≤ sizeLine; decide, fun t nt => q _ _ (s1.new nt) (.tup upd_same .nil (by show 0 ≤ 1000; decide))⟩
    · obtain ⟨ya, ys, rfl, hya, hys, _⟩ := dv_tup hd
      cases hys with
      | @cons va ys0 a1 yl0 hva t0 =>
      cases t0 with
      | @cons vb ys1 b1 yl1 hvb t1 =>
      cases t1
      cases dv_str hva
      cases dv_int hvb
      refine iteF ⟨_, rfl, ya, _, rfl, SqT.of (s1.same _ _ hya fun _ z => nomatch z), rfl, _, _, rfl, _, _, rfl, rfl, _, rfl, _, rfl, _, rfl, _, _, rfl, rfl, by show 2 ≤ sizeLine; decide, fun t nt => q _ _ (s1.new nt) (.tup upd_same (.two ?_ (.int _)) (by show 2 ≤ 1000; decide))⟩
      cases hva with | str a b => exact .str a b
/-! ### shortage -/
abbrev s_shortage : Stmt := topS 27
abbrev N_shortage : List Str := ["homes", "here", "one", "other", "rise", "there", "hand", "coins"]
abbrev P_shortage : List Str := ["homes", "here", "one", "other"]
theorem sc_shortage : FnScope N_shortage P_shortage (defScope s_shortage) := ⟨rfl, rfl, rfl, by decide +kernel, rfl, by decide +kernel, by decide +kernel⟩

def sp_shortage : Sp := fun vs H Q _ => ∃ (vh vr : V) (hm st : List PyData) (d : PyData) (i j : Nat), vs = [vh, vr, .int i, .int j] ∧ DV H vh (.tuple hm) ∧ DV H vr d ∧ (d = .tuple st ∨ d = .list st) ∧ i < hm.length ∧ j < hm.length ∧ st.length = hm.length ∧ (∀ e ∈ hm, isEntry e = true) ∧ (∀ e ∈ st, held e) ∧ ∀ H' r, StayT H H' → DV H' r (shortD hm st i j) → Q r H'
theorem ok_shortage (F : FnP K "shortage" s_shortage f fd) (fr : Free mg) : FnOk P w K mg base (L2.CX P w) 1 f fd P_shortage sp_shortage := by
  refine F.ok sc_shortage (fun vs H Q E h => ?_) (fun cdv A outer s H vs Q E hr h => ⟨_, PSs.nox (pss_cons (ps_set (i := 4) sc_shortage.nd rfl (Or.inl rfl) (pe_op op_sub (pe_ix ix_D (pe_ix ix_D (pv 0) (pv 3) (fun _ _ => rfl)) pe_int (fun _ _ => rfl)) (pe_ix ix_D (pe_ix ix_D (pv 0) (pv 2) (fun _ _ => rfl)) pe_int (fun _ _ => rfl))))
    (pss_cons (ps_set (i := 5) sc_shortage.nd rfl (Or.inl rfl) (pe_ifExp (pt_cmpR op_gt (pv 4) pe_int (nomark _)) (pe_ix ix_D (pv 1) (pv 2) (fun _ _ => rfl)) (pe_ix ix_D (pv 1) (pv 3) (fun _ _ => rfl))))
    (pss_cons (ps_if (PW.pt (pw_or (pt_cmpR (op_eqU hr.units0) (pv 5) (pe_tup pa_nil) (nomark _)) (pw_or1 (pt_cmpR op_ge (pe_ix ix_D (pv 5) pe_int (fun _ _ => rfl)) (pe_callB call_abs (by rfl) (fr "abs" (by decide)) (by decide +kernel) (pa_cons (pv 4) pa_nil)) (nomark _))))) (pss_one (ps_ret pe_non)) pss_nil)
    (pss_cons (ps_asg (pv 5) (pg_tup rfl (pgs_cons (pg_name (i := 6) sc_shortage.nd rfl (Or.inl rfl)) (pgs_cons (pg_name (i := 7) sc_shortage.nd rfl (Or.inl rfl)) pgs_nil))))
    (pss_one (ps_ret (pe_tup (pa_cons (pv 6) (pa_cons (pe_op op_sub (pe_callB call_abs (by rfl) (fr "abs" (by decide)) (by decide +kernel) (pa_cons (pv 4) pa_nil)) (pv 7)) pa_nil))))))))), ?_⟩)
  · obtain ⟨vh, vr, hm, st, d, i, j, rfl, _⟩ := h; rfl
  · obtain ⟨vh, vr, hm, st, d, i, j, rfl, hh, hr, dd, hi, hj, len, he, hs, q⟩ := h
    have item : ∀ k, k < hm.length → itemD d k = some (st.getD k .none) := fun k hk => by
      have e : st[k]? = some (st.getD k .none) := by rw [List.getD_eq_getElem?_getD, List.getElem?_eq_getElem (by omega)]; rfl
      rcases dd with rfl | rfl <;> exact e
    have itemH : ∀ k, k < hm.length → itemD (.tuple hm) k = some (hm.getD k .none) := fun k hk => by
      show hm[k]? = _
      rw [List.getD_eq_getElem?_getD, List.getElem?_eq_getElem hk]; rfl
    have worth : ∀ k, k < hm.length → ∃ n, hm.getD k .none = .tuple [.str n, .int (worthOf (hm.getD k .none))] := fun k hk => by
      have e : hm.getD k .none = hm[k] := by rw [List.getD_eq_getElem?_getD, List.getElem?_eq_getElem hk]; rfl
      obtain ⟨n, w0, e2, _⟩ := entry_shape (he _ (List.getElem_mem hk))
      rw [e, e2]
      exact ⟨n, rfl⟩
    have heldAt : ∀ k, k < hm.length → held (st.getD k .none) := fun k hk => by
      have e : st.getD k .none = st[k]'(by omega) := by rw [List.getD_eq_getElem?_getD, List.getElem?_eq_getElem (by omega)]; rfl
      rw [e]
      exact hs _ (List.getElem_mem _)
    obtain ⟨nj, ej⟩ := worth j hj
    obtain ⟨ni, ei⟩ := worth i hi
    refine ⟨_, rfl, _, rfl, _, hm.getD j .none, j, hh, rfl, itemH j hj, fun v1 hv1 => ⟨_, .int (worthOf (hm.getD j .none)), 1, hv1, rfl, by rw [ej]; rfl, fun v2 hv2 => ?_⟩⟩
    cases dv_int hv2
    refine ⟨_, rfl, _, rfl, _, hm.getD i .none, i, hh, rfl, itemH i hi, fun v3 hv3 => ⟨_, .int (worthOf (hm.getD i .none)), 1, hv3, rfl, by rw [ei]; rfl, fun v4 hv4 => ?_⟩⟩
    cases dv_int hv4
    refine ⟨_, _, rfl, rfl, ?_⟩
    have ri : worthOf (hm.getD j .none) - worthOf (hm.getD i .none) = riseOf hm i j := rfl
    show gName 4 (.int (worthOf (hm.getD j .none) - worthOf (hm.getD i .none))) _ _ _
    rw [ri]
    refine ⟨_, rfl, _, _, rfl, rfl, _, rfl, ?_⟩
    by_cases z : 0 < riseOf hm i j
    · rw [decide_eq_true z]
      refine iteT ⟨_, rfl, _, rfl, _, st.getD i .none, i, hr, rfl, item i hi, fun vt hvt => ?_⟩
      have hh2 := heldAt i hi
      have es : shortD hm st i j = shortOf (st.getD i .none) (riseOf hm i j) := by unfold shortD; rw [if_pos z]
      generalize st.getD i .none = dt at hh2 hvt es
      refine ⟨vt, rfl, by show 0 ≤ sizeLine; decide, fun u nu => ?_⟩
      have s1 := (StayT.refl H).new (o := .tup []) nu
      refine ⟨dt, u, hvt.stay s1, rfl, upd_same, _, rfl, ?_⟩
      rcases hh2 with rfl | ⟨n, c, rfl⟩
      · refine iteT (iteT (q _ _ s1 ?_))
        rw [es]; exact .non
      · have hv2' := hvt.stay s1
        refine iteF ⟨vt, rfl, _, .int c, 1, hv2', rfl, rfl, fun v5 hv5 => ?_⟩
        cases dv_int hv5
        refine ⟨_, rfl, _, rfl, _, _, rfl, rfl, _, rfl, ?_⟩
        by_cases y : absI (riseOf hm i j) ≤ c
        · rw [decide_eq_true (show (if riseOf hm i j < 0 then -riseOf hm i j else riseOf hm i j) ≤ c from y)]
          refine iteT (q _ _ s1 ?_)
          rw [es, shortOf_eq, if_pos y]; exact .non
        · rw [decide_eq_false (show ¬ (if riseOf hm i j < 0 then -riseOf hm i j else riseOf hm i j) ≤ c from y)]
          obtain ⟨ya, ys, rfl, hya, hys, _⟩ := dv_tup hv2'
          cases hys with
          | @cons va ys0 a1 yl0 hva t0 =>
          cases t0 with
          | @cons vb ys1 b1 yl1 hvb t1 =>
          cases t1
          cases dv_str hva
          cases dv_int hvb
          refine iteF ⟨_, rfl, ya, _, rfl, SqT.of hya, rfl, _, _, rfl, _, _, rfl, rfl, _, rfl, _, rfl, _, rfl, _, rfl, _, _, rfl, rfl, by show 2 ≤ sizeLine; decide, fun t nt => q _ _ (s1.new nt) ?_⟩
          rw [es, shortOf_eq, if_neg y]
          refine .tup upd_same (.two ?_ (.int _)) (by show 2 ≤ 1000; decide)
          cases hva with | str a b => exact .str a b
    · rw [decide_eq_false z]
      refine iteF ⟨_, rfl, _, rfl, _, st.getD j .none, j, hr, rfl, item j hj, fun vt hvt => ?_⟩
      have hh2 := heldAt j hj
      have es : shortD hm st i j = shortOf (st.getD j .none) (riseOf hm i j) := by unfold shortD; rw [if_neg z]
      generalize st.getD j .none = dt at hh2 hvt es
      refine ⟨vt, rfl, by show 0 ≤ sizeLine; decide, fun u nu => ?_⟩
      have s1 := (StayT.refl H).new (o := .tup []) nu
      refine ⟨dt, u, hvt.stay s1, rfl, upd_same, _, rfl, ?_⟩
      rcases hh2 with rfl | ⟨n, c, rfl⟩
      · refine iteT (iteT (q _ _ s1 ?_))
        rw [es]; exact .non
      · have hv2' := hvt.stay s1
        refine iteF ⟨vt, rfl, _, .int c, 1, hv2', rfl, rfl, fun v5 hv5 => ?_⟩
        cases dv_int hv5
        refine ⟨_, rfl, _, rfl, _, _, rfl, rfl, _, rfl, ?_⟩
        by_cases y : absI (riseOf hm i j) ≤ c
        · rw [decide_eq_true (show (if riseOf hm i j < 0 then -riseOf hm i j else riseOf hm i j) ≤ c from y)]
          refine iteT (q _ _ s1 ?_)
          rw [es, shortOf_eq, if_pos y]; exact .non
        · rw [decide_eq_false (show ¬ (if riseOf hm i j < 0 then -riseOf hm i j else riseOf hm i j) ≤ c from y)]
          obtain ⟨ya, ys, rfl, hya, hys, _⟩ := dv_tup hv2'
          cases hys with
          | @cons va ys0 a1 yl0 hva t0 =>
          cases t0 with
          | @cons vb ys1 b1 yl1 hvb t1 =>
          cases t1
          cases dv_str hva
          cases dv_int hvb
          refine iteF ⟨_, rfl, ya, _, rfl, SqT.of hya, rfl, _, _, rfl, _, _, rfl, rfl, _, rfl, _, rfl, _, rfl, _, rfl, _, _, rfl, rfl, by show 2 ≤ sizeLine; decide, fun t nt => q _ _ (s1.new nt) ?_⟩
          rw [es, shortOf_eq, if_neg y]
          refine .tup upd_same (.two ?_ (.int _)) (by show 2 ≤ 1000; decide)
          cases hva with | str a b => exact .str a b
end
end WR
namespace WR
open PySem PySem.Spec PyProof.Rows L2
def exchangeD (hm st : List PyData) (i j : Nat) : List PyData := (st.set i (movedD (st.getD j .none) (-riseOf hm i j))).set j (movedD (st.getD i .none) (riseOf hm i j))
theorem DVs.set {H : Hp} : ∀ {vs : List V} {ds : List PyData} {v : V} {d : PyData} (i : Nat), DVs H vs ds → DV H v d → DVs H (vs.set i v) (ds.set i d)
  | _, _, _, _, _, .nil, _ => .nil
  | _, _, _, _, 0, .cons _ t, h => .cons h t
  | _, _, _, _, i + 1, .cons a t, h => .cons a (DVs.set i t h)
theorem ix_nat {i n : Nat} (h : i < n) : ixN n (i : Int) = some i := by
  unfold ixN
  rw [if_pos (by omega), if_pos (by omega)]
  rfl
theorem held_wl {G : Hp} {v : V} {e : PyData} {ms : List Addr} (h : DV G v e) (p : held e) (hm : ∀ m ∈ ms, ∃ xs, G m = some (.lst xs)) : DV (wl ms G) v e := by
  have ne : ∀ {a : Addr} {xs : List V}, G a = some (.tup xs) → wl ms G a = some (.tup xs) := fun {a xs} ha => by
    rw [wl_out fun z => ?_]
    · exact ha
    · obtain ⟨xs, e⟩ := hm a z
      rw [ha] at e; cases e
  rcases p with rfl | ⟨n, c, rfl⟩
  · obtain ⟨a, xs, rfl, ha, hxs, hl⟩ := dv_tup h
    cases hxs
    exact .tup (ne ha) .nil hl
  · obtain ⟨a, xs, rfl, ha, hxs, hl⟩ := dv_tup h
    cases hxs with
    | @cons va xs1 d1 ds1 h1 t0 =>
    cases t0 with
    | @cons vb xs2 d2 ds2 h2 t1 =>
    cases t1
    cases dv_str h1
    cases dv_int h2
    refine .tup (ne ha) (.two ?_ (.int _)) hl
    cases h1 with | str a b => exact .str a b
theorem held_moved (d : PyData) (r : Int) : held (movedD d r) := by
  unfold movedD
  split
  · exact .inr ⟨_, _, rfl⟩
  · exact .inl rfl
section
variable {P : Program} {w : World} {K : PySem.W.Frag} {mg : Str → Option Value} {base : Heap} {f : Addr} {fd : FuncData} {T : Addr}
/-! ### exchange -/
abbrev s_exchange : Stmt := topS 29
abbrev N_exchange : List Str := ["homes", "here", "one", "other", "rise"]
abbrev P_exchange : List Str := ["homes", "here", "one", "other"]
theorem sc_exchange : FnScope N_exchange P_exchange (defScope s_exchange) := ⟨rfl, rfl, rfl, by decide +kernel, rfl, by decide +kernel, by decide +kernel⟩

def sp_exchange : Sp := fun vs H Q _ => ∃ (vh : V) (a : Addr) (hm st : List PyData) (xs : List V) (i j : Nat), vs = [vh, .ref a, .int i, .int j] ∧ DV (wl [a] H) vh (.tuple hm) ∧ H a = some (.lst xs) ∧ DVs (wl [a] H) xs st ∧ i < hm.length ∧ j < hm.length ∧ st.length = hm.length ∧ (∀ e ∈ hm, isEntry e = true) ∧ (∀ e ∈ st, held e) ∧
  ∀ H' ys, StayT (wl [a] H) (wl [a] H') → H' a = some (.lst ys) → DVs (wl [a] H') ys (exchangeD hm st i j) → Q .non H'
theorem ok_exchange (F : FnP K "exchange" s_exchange f fd) (fr : Free mg) (c_moved : Cal P w K mg base "moved" 1 P_moved sp_moved) : FnOk P w K mg base (L2.CX P w) 2 f fd P_exchange sp_exchange := by
  refine F.ok sc_exchange (fun vs H Q E h => ?_) (fun cdv A outer s H vs Q E hr h => ⟨_, PSs.nox (pss_cons (ps_set (i := 4) sc_exchange.nd rfl (Or.inl rfl) (pe_op op_sub (pe_ix ix_D (pe_ix ix_D (pv 0) (pv 3) (fun _ _ => rfl)) pe_int (fun _ _ => rfl)) (pe_ix ix_D (pe_ix ix_D (pv 0) (pv 2) (fun _ _ => rfl)) pe_int (fun _ _ => rfl))))
    (pss_one (ps_asg (pe_tup (pa_cons (pe_F c_moved (hr.mono (by omega)) (pa_cons (pe_ix ix_K (pv 1) (pv 3) (fun _ _ => rfl)) (pa_cons (pe_un un_neg (pv 4)) pa_nil))) (pa_cons (pe_F c_moved (hr.mono (by omega)) (pa_cons (pe_ix ix_K (pv 1) (pv 2) (fun _ _ => rfl)) (pa_cons (pv 4) pa_nil))) pa_nil))) (pg_tup rfl (pgs_cons (pg_sub (pv 1) (pv 2) set_list) (pgs_cons (pg_sub (pv 1) (pv 3) set_list) pgs_nil)))))), ?_⟩)
  · obtain ⟨vh, a, hm, st, xs, i, j, rfl, _⟩ := h; rfl
  · obtain ⟨vh, a, hm, st, xs, i, j, rfl, hh, ha, hxs, hi, hj, len, he, hs, q⟩ := h
    have itemH : ∀ k, k < hm.length → itemD (.tuple hm) k = some (hm.getD k .none) := fun k hk => by
      show hm[k]? = _
      rw [List.getD_eq_getElem?_getD, List.getElem?_eq_getElem hk]; rfl
    have worth : ∀ k, k < hm.length → ∃ n, hm.getD k .none = .tuple [.str n, .int (worthOf (hm.getD k .none))] := fun k hk => by
      have e : hm.getD k .none = hm[k] := by rw [List.getD_eq_getElem?_getD, List.getElem?_eq_getElem hk]; rfl
      obtain ⟨n, w0, e2, _⟩ := entry_shape (he _ (List.getElem_mem hk))
      rw [e, e2]
      exact ⟨n, rfl⟩
    have at_ : ∀ k, k < hm.length → ∃ v, xs[k]? = some v ∧ DV (wl [a] H) v (st.getD k .none) ∧ held (st.getD k .none) := fun k hk => by
      have e : st[k]? = some (st.getD k .none) := by rw [List.getD_eq_getElem?_getD, List.getElem?_eq_getElem (by omega)]; rfl
      obtain ⟨v, h1, h2⟩ := hxs.got e
      exact ⟨v, h1, h2, hs _ (List.mem_of_getElem? e)⟩
    obtain ⟨nj, ej⟩ := worth j hj
    obtain ⟨ni, ei⟩ := worth i hi
    refine ⟨_, rfl, _, rfl, _, hm.getD j .none, j, hh.out, rfl, itemH j hj, fun v1 hv1 => ⟨_, .int (worthOf (hm.getD j .none)), 1, hv1, rfl, by rw [ej]; rfl, fun v2 hv2 => ?_⟩⟩
    cases dv_int hv2
    refine ⟨_, rfl, _, rfl, _, hm.getD i .none, i, hh.out, rfl, itemH i hi, fun v3 hv3 => ⟨_, .int (worthOf (hm.getD i .none)), 1, hv3, rfl, by rw [ei]; rfl, fun v4 hv4 => ?_⟩⟩
    cases dv_int hv4
    refine ⟨_, _, rfl, rfl, ?_⟩
    have ri : worthOf (hm.getD j .none) - worthOf (hm.getD i .none) = riseOf hm i j := rfl
    show gName 4 (.int (worthOf (hm.getD j .none) - worthOf (hm.getD i .none))) _ _ _
    rw [ri]
    obtain ⟨vj, xj, dj, hj2⟩ := at_ j hj
    obtain ⟨vi, xi, di, hi2⟩ := at_ i hi
    refine ⟨_, rfl, _, rfl, .inl ⟨a, xs, _, vj, rfl, rfl, SqL.of ha, atI_nat xj, ?_⟩⟩
    have one : ∀ {G : Hp}, G a = some (.lst xs) → ∀ m ∈ [a], ∃ xs, G m = some (.lst xs) := fun h m hm => ⟨xs, by rw [List.mem_singleton.mp hm]; exact h⟩
    have na : a ∈ [a] := List.mem_singleton.mpr rfl
    refine ⟨_, rfl, _, rfl, vj, _, _, rfl, dj.out, hj2, fun H1 u1 s1 hu1 => ?_⟩
    have ha1 := s1.same _ _ ha fun _ z => nomatch z
    refine ⟨_, rfl, _, rfl, .inl ⟨a, xs, _, vi, rfl, rfl, SqL.of ha1, atI_nat xi, _, rfl, vi, _, _, rfl, di.out.stay s1, hi2, fun H2 u2 s2 hu2 => ⟨by show 2 ≤ sizeLine; decide, fun t nt => ?_⟩⟩⟩
    have ha2 := s2.same _ _ ha1 fun _ z => nomatch z
    have t_a : t ≠ a := fun z => by rw [z, ha2] at nt; cases nt
    have w1 : DV (wl [a] H2) u1 (movedD (st.getD j .none) (-riseOf hm i j)) := held_wl (hu1.stay s2) (held_moved _ _) (one ha2)
    have w2 : DV (wl [a] H2) u2 (movedD (st.getD i .none) (riseOf hm i j)) := held_wl hu2 (held_moved _ _) (one ha2)
    have sW : StayT (wl [a] H) (wl [a] (upd H2 t (.tup [u1, u2]))) := (wl_stay (s1.trans s2)).trans (wl_alloc nt)
    have ha3 : upd H2 t (.tup [u1, u2]) a = some (.lst xs) := by rw [upd_ne t_a.symm]; exact ha2
    have ht3 : upd H2 t (.tup [u1, u2]) t = some (.tup [u1, u2]) := upd_same
    replace w1 := w1.stay (wl_alloc (o := .tup [u1, u2]) nt)
    replace w2 := w2.stay (wl_alloc (o := .tup [u1, u2]) nt)
    generalize upd H2 t (.tup [u1, u2]) = H3 at sW ha3 ht3 w1 w2
    have lx : xs.length = st.length := hxs.length
    refine ⟨t, _, rfl, SqT.of ht3, rfl, _, _, rfl, _, rfl, _, rfl, ⟨a, xs, i, i, rfl, rfl, ha3, ix_nat (by omega), ?_⟩⟩
    refine ⟨_, _, rfl, _, rfl, _, rfl, ⟨a, xs.set i u1, j, j, rfl, rfl, upd_same, ix_nat (by rw [List.length_set]; omega), rfl, ?_⟩⟩
    refine q _ ((xs.set i u1).set j u2) ?_ upd_same ?_
    · rw [wl_upd_in na, wl_upd_in na]; exact sW
    · rw [wl_upd_in na, wl_upd_in na]
      exact DVs.set j (DVs.set i (hxs.stay sW) w1) w2
end
end WR
namespace WR
open PySem PySem.Spec PyProof.Rows L2
/-! ## drawn towns and standings are such -/
theorem stock_name : ∀ x ∈ stock, isNameS x = true := by decide +kernel
theorem home_entry {d : PyData} (h : HomeD d) : isEntry d = true := by
  obtain ⟨x, hx, i, _, rfl⟩ := h
  have e : isEntry (.tuple [.str x, .int (i : Nat)]) = (isNameS x && (isWhole (.int (i : Nat)) && decide ((0 : Int) ≤ (i : Nat)))) := rfl
  have w : isWhole (.int ((i : Nat) : Int)) = true := by rfl
  rw [e, stock_name x hx, w, decide_eq_true (by omega)]; rfl
theorem badHome_ok : ∀ (l : List PyData) (k : Nat) (seen : List Str), (∀ d ∈ l, isEntry d = true) → (seen ++ l.map entryName).Nodup → badHome k seen l = .none
  | [], _, _, _, _ => rfl
  | d :: r, k, seen, h, nd => by
    unfold badHome
    have e : seen ++ (d :: r).map entryName = (seen ++ [entryName d]) ++ r.map entryName := by simp
    rw [e] at nd
    have n1 : (seen ++ [entryName d]).Nodup := (List.nodup_append.mp nd).1
    have n2 : entryName d ∉ seen := fun z => by
      have := (List.nodup_append.mp n1).2.2 _ z _ (List.mem_singleton.mpr rfl)
      exact this rfl
    rw [if_pos (by simp [homeOk, h d List.mem_cons_self, n2])]
    exact badHome_ok r _ _ (fun x hx => h x (List.mem_cons_of_mem _ hx)) nd
/-- roads that are such: of the names, no two alike -/
def Good (names : List Str) (ps : List (Str × Str)) : Prop := (∀ p ∈ ps, p.1 ∈ names ∧ p.2 ∈ names ∧ p.1 ≠ p.2) ∧ ps.Pairwise fun p q => p ≠ q ∧ p ≠ (q.2, q.1)
theorem good_nil (names : List Str) : Good names [] := ⟨(fun _ z => by cases z), List.Pairwise.nil⟩
theorem good_snoc {names : List Str} {ps : List (Str × Str)} {a b : Str} (h : Good names ps) (ha : a ∈ names) (hb : b ∈ names) (ne : a ≠ b) (n1 : (a, b) ∉ ps) (n2 : (b, a) ∉ ps) : Good names (ps ++ [(a, b)]) := by
  refine ⟨fun p hp => ?_, List.pairwise_append.mpr ⟨h.2, List.pairwise_singleton .., fun p hp q hq => ?_⟩⟩
  · rcases List.mem_append.mp hp with z | z
    · exact h.1 p z
    · rw [List.mem_singleton.mp z]; exact ⟨ha, hb, ne⟩
  · rw [List.mem_singleton.mp hq]
    exact ⟨fun z => n1 (by rw [← z]; exact hp), fun z => n2 (by rw [← z]; exact hp)⟩
theorem badRoad_ok : ∀ (l : List (Str × Str)) (k : Nat) (names : List Str) (pairs : List (Str × Str)), (∀ p ∈ l, p.1 ∈ names ∧ p.2 ∈ names ∧ p.1 ≠ p.2) → (pairs ++ l).Pairwise (fun p q => p ≠ q ∧ p ≠ (q.2, q.1)) → badRoad k names pairs (l.map pairOf) = .none
  | [], _, _, _, _, _ => rfl
  | (a, b) :: r, k, names, pairs, h, pw => by
    obtain ⟨h1, h2, h3⟩ := h (a, b) List.mem_cons_self
    have e : pairs ++ (a, b) :: r = (pairs ++ [(a, b)]) ++ r := by simp
    rw [e] at pw
    have p1 := (List.pairwise_append.mp pw).1
    have p2 := (List.pairwise_append.mp p1).2.2
    have n1 : (a, b) ∉ pairs := fun z => (p2 _ z _ (List.mem_singleton.mpr rfl)).1 rfl
    have n2 : (b, a) ∉ pairs := fun z => (p2 _ z _ (List.mem_singleton.mpr rfl)).2 rfl
    rw [List.map_cons]
    unfold badRoad
    have ok : roadOk names pairs (pairOf (a, b)) = true := by
      have e2 : roadOk names pairs (pairOf (a, b)) = ((decide (a ∈ names) && decide (b ∈ names)) && (decide (a ≠ b) && (!decide ((a, b) ∈ pairs) && !decide ((b, a) ∈ pairs)))) := rfl
      rw [e2]
      have h1' : a ∈ names := h1
      have h2' : b ∈ names := h2
      have h3' : a ≠ b := h3
      simp [h1', h2', h3', n1, n2]
    rw [if_pos ok]
    exact badRoad_ok r _ _ _ (fun x hx => h x (List.mem_cons_of_mem _ hx)) pw
theorem good_bad {names : List Str} {ps : List (Str × Str)} (h : Good names ps) : badRoad 0 names [] (ps.map pairOf) = .none := badRoad_ok ps 0 names [] h.1 h.2
/-- some of them turned about -/
def Turned (ps qs : List (Str × Str)) : Prop := ∀ (j : Nat) (p : Str × Str), qs[j]? = some p → ∃ q, ps[j]? = some q ∧ (p = q ∨ p = (q.2, q.1))
theorem good_turned {names : List Str} {ps qs : List (Str × Str)} (h : Good names ps) (t : Turned ps qs) : Good names qs := by
  refine ⟨fun p hp => ?_, List.pairwise_iff_getElem.mpr fun i j hi hj hij => ?_⟩
  · obtain ⟨j, hj⟩ := List.getElem?_of_mem hp
    obtain ⟨q, hq, e⟩ := t j p hj
    obtain ⟨h1, h2, h3⟩ := h.1 q (List.mem_of_getElem? hq)
    rcases e with rfl | rfl
    · exact ⟨h1, h2, h3⟩
    · exact ⟨h2, h1, fun z => h3 z.symm⟩
  · obtain ⟨q1, e1, t1⟩ := t i _ (List.getElem?_eq_getElem hi)
    obtain ⟨q2, e2, t2⟩ := t j _ (List.getElem?_eq_getElem hj)
    obtain ⟨b1, c1⟩ := List.getElem?_eq_some_iff.mp e1
    obtain ⟨b2, c2⟩ := List.getElem?_eq_some_iff.mp e2
    have pw := List.pairwise_iff_getElem.mp h.2 i j b1 b2 hij
    rw [c1, c2] at pw
    obtain ⟨n1, n2⟩ := pw
    obtain ⟨x1, y1⟩ := q1
    obtain ⟨x2, y2⟩ := q2
    simp only [ne_eq, Prod.mk.injEq, not_and] at n1 n2
    rcases t1 with z1 | z1 <;> rcases t2 with z2 | z2 <;> rw [z1, z2] <;> simp only [ne_eq, Prod.mk.injEq, not_and]
    · exact ⟨n1, n2⟩
    · exact ⟨n2, fun a b => n1 a b⟩
    · exact ⟨fun a b => n2 b a, fun a b => n1 b a⟩
    · exact ⟨fun a b => n1 b a, fun a b => n2 b a⟩
theorem turned_snoc {ps qs : List (Str × Str)} {q p : Str × Str} (t : Turned ps qs) (hq : ps[qs.length]? = some q) (e : p = q ∨ p = (q.2, q.1)) : Turned ps (qs ++ [p]) := fun j r hr => by
  by_cases h : j < qs.length
  · rw [List.getElem?_append_left h] at hr
    exact t j r hr
  · have hj : j = qs.length := by
      have := (List.getElem?_eq_some_iff.mp hr).1
      rw [List.length_append] at this
      simp at this
      omega
    subst hj
    simp at hr
    subst hr
    exact ⟨q, hq, e⟩
theorem town_good {e : PyData} {l : List PyData} {ps : List (Str × Str)} (h : ∀ d ∈ e :: l, HomeD d) (nd : ((e :: l).map entryName).Nodup) (g : Good ((e :: l).map entryName) ps) : townWrong (.tuple [.tuple (e :: l), .tuple (ps.map pairOf)]) = .none := by
  show orElse (badHome 0 [] (e :: l)) (badRoad 0 ((e :: l).map entryName) [] (ps.map pairOf)) = .none
  rw [badHome_ok _ 0 [] (fun d hd => home_entry (h d hd)) (by simpa using nd), good_bad g]
  rfl
theorem good_pairs {ns : List Str} {ps : List (Str × Str)} (h : Good ns ps) (hs : ∀ x ∈ ns, x ∈ stock) : ∀ d ∈ ps.map pairOf, PairD d := fun d hd => by
  obtain ⟨p, hp, rfl⟩ := List.mem_map.mp hd
  obtain ⟨h1, h2, _⟩ := h.1 p hp
  exact ⟨p.1, p.2, hs _ h1, hs _ h2, rfl⟩
theorem pick_wordAt {H : Hp} {a : Addr} {l : List Str} {r : Nat} {y : V} {R : VK} (ey : y = .int (r : Int)) (e : H a = some (.lst (l.map V.str))) (hl : l.length ≤ 1000) (hr : r < l.length) (hs : ∀ x ∈ l, x ∈ stock) (q : R (.str l[r]) H) : rItemD (.ref a) y H R := by
  subst ey
  refine ⟨.list (l.map PyData.str), .str l[r], r, .lst e (dvs_words hs) (by rw [List.length_map]; exact hl), rfl, by simp [itemD, hr], fun v hv => ?_⟩
  cases dv_str hv
  exact q
theorem nodup_at {l : List Str} (h : l.Nodup) {i j : Nat} {x : Str} (hi : l[i]? = some x) (hj : l[j]? = some x) : i = j := by
  obtain ⟨a, ha⟩ := List.getElem?_eq_some_iff.mp hi
  obtain ⟨b, hb⟩ := List.getElem?_eq_some_iff.mp hj
  have pw := List.pairwise_iff_getElem.mp h
  rcases Nat.lt_trichotomy i j with z | z | z
  · exact absurd (ha.trans hb.symm) (pw i j a b z)
  · exact z
  · exact absurd (hb.trans ha.symm) (pw j i b a z)
theorem badHand_ok : ∀ (l : List PyData) (k : Nat) (seen : List Str), (∀ d ∈ l, isUnit d = true ∨ isEntry d = true) → (seen ++ (l.filter fun d => !isUnit d).map entryName).Nodup → badHand k seen l = .none
  | [], _, _, _, _ => rfl
  | d :: r, k, seen, h, nd => by
    unfold badHand
    by_cases u : isUnit d = true
    · rw [if_pos (by simp [handOk, u]), if_pos u]
      refine badHand_ok r _ _ (fun x hx => h x (List.mem_cons_of_mem _ hx)) ?_
      rw [List.filter_cons_of_neg (by simp [u])] at nd
      exact nd
    · have en := (h d List.mem_cons_self).resolve_left u
      rw [List.filter_cons_of_pos (by simpa using u)] at nd
      have e : seen ++ (d :: r.filter fun d => !isUnit d).map entryName = (seen ++ [entryName d]) ++ (r.filter fun d => !isUnit d).map entryName := by simp
      rw [e] at nd
      have n1 : (seen ++ [entryName d]).Nodup := (List.nodup_append.mp nd).1
      have n2 : entryName d ∉ seen := fun z => by
        have := (List.nodup_append.mp n1).2.2 _ z _ (List.mem_singleton.mpr rfl)
        exact this rfl
      rw [if_pos (by simp [handOk, homeOk, en, n2]), if_neg u]
      exact badHand_ok r _ _ (fun x hx => h x (List.mem_cons_of_mem _ hx)) nd
end WR
namespace WR
open PySem PySem.Spec PyProof.Rows L2
theorem badRoad_is : ∀ (l : List PyData) (k : Nat) (names : List Str) (pairs : List (Str × Str)), badRoad k names pairs l = .none → ∃ ps : List (Str × Str), l = ps.map pairOf ∧ ∀ p ∈ ps, p.1 ∈ names ∧ p.2 ∈ names
  | [], _, _, _, _ => ⟨[], rfl, fun _ z => by cases z⟩
  | d :: r, k, names, pairs, h => by
    unfold badRoad at h
    by_cases c : roadOk names pairs d = true
    · rw [if_pos c] at h
      obtain ⟨ps, e, hp⟩ := badRoad_is r _ _ _ h
      have tp : isTextPair d = true := by
        cases z : isTextPair d with
        | true => rfl
        | false => rw [roadOk_text z] at c; cases c
      obtain ⟨a, b, rfl⟩ := textPair_shape tp
      have e2 : roadOk names pairs (.tuple [.str a, .str b]) = ((decide (a ∈ names) && decide (b ∈ names)) && (decide (a ≠ b) && (!decide ((a, b) ∈ pairs) && !decide ((b, a) ∈ pairs)))) := rfl
      rw [e2] at c
      simp only [Bool.and_eq_true, decide_eq_true_eq] at c
      refine ⟨(a, b) :: ps, by rw [e]; rfl, fun p hp2 => ?_⟩
      rcases List.mem_cons.mp hp2 with rfl | hp2
      · exact c.1
      · exact hp p hp2
    · rw [if_neg c] at h; cases h
theorem badHome_nodup : ∀ (l : List PyData) (k : Nat) (seen : List Str), badHome k seen l = .none → seen.Nodup → (seen ++ l.map entryName).Nodup
  | [], _, _, _, nd => by simpa using nd
  | d :: r, k, seen, h, nd => by
    unfold badHome at h
    by_cases c : homeOk seen d = true
    · rw [if_pos c] at h
      have hk : entryName d ∉ seen := by
        unfold homeOk at c
        simp at c
        exact c.2
      have nd2 : (seen ++ [entryName d]).Nodup := by
        rw [List.nodup_append]
        refine ⟨nd, by simp, fun a ha b hb => ?_⟩
        rw [List.mem_singleton.mp hb]
        exact fun z => hk (by rw [← z]; exact ha)
      have := badHome_nodup r _ _ h nd2
      simpa using this
    · rw [if_neg c] at h; cases h
/-- what the ends of roads are, in a dict -/
def EndsAre (H : Hp) (kvs : List (List Key × V)) (names : List Str) (ps : List (Str × Str)) : Prop := ∀ a b : Str,
  (((a, b) ∈ ps ∨ (b, a) ∈ ps) → ∃ t i j, valV kvs [Sum.inr a, Sum.inr b] = some (.ref t) ∧ H t = some (.tup [.int (i : Nat), .int (j : Nat)]) ∧ names[i]? = some a ∧ names[j]? = some b) ∧ (¬ ((a, b) ∈ ps ∨ (b, a) ∈ ps) → valV kvs [Sum.inr a, Sum.inr b] = none)
/-- the places of the first i names, in a dict -/
def PlaceAre (kvs : List (Key × V)) (names : List Str) (i : Nat) : Prop := ∀ (n : Str) (v : V), valV kvs (Sum.inr n) = some v ↔ ∃ k : Nat, k < i ∧ names[k]? = some n ∧ v = .int k
theorem place_put {kvs : List (Key × V)} {names : List Str} {i : Nat} {x : Str} (h : PlaceAre kvs names i) (nd : names.Nodup) (hx : names[i]? = some x) : PlaceAre (putK kvs (Sum.inr x) (.int (i : Nat))) names (i + 1) := fun n v => by
  rw [valV_put]
  by_cases e : n = x
  · subst e
    rw [if_pos rfl]
    constructor
    · intro z
      exact ⟨i, by omega, hx, (Option.some.inj z).symm⟩
    · rintro ⟨k, hk, hn, rfl⟩
      rw [nodup_at nd hn hx]
  · rw [if_neg (fun z => e (by injection z)), h n v]
    constructor
    · rintro ⟨k, hk, hn, rfl⟩
      exact ⟨k, by omega, hn, rfl⟩
    · rintro ⟨k, hk, hn, rfl⟩
      refine ⟨k, ?_, hn, rfl⟩
      have : k ≠ i := fun z => by
        rw [z, hx] at hn
        exact e (Option.some.inj hn).symm
      omega
theorem EndsAre.stay {H H' : Hp} {kvs : List (List Key × V)} {names : List Str} {ps : List (Str × Str)} (h : EndsAre H kvs names ps) (s : StayT H H') : EndsAre H' kvs names ps := fun a b => by
  refine ⟨fun hab => ?_, (h a b).2⟩
  obtain ⟨t, i, j, h1, h2, h3, h4⟩ := (h a b).1 hab
  exact ⟨t, i, j, h1, s.same _ _ h2 (fun _ z => nomatch z), h3, h4⟩
theorem ends_put {H : Hp} {kvs : List (List Key × V)} {names : List Str} {ps : List (Str × Str)} {a b : Str} {i j : Nat} {t u : Addr} (h : EndsAre H kvs names ps) (ha : names[i]? = some a) (hb : names[j]? = some b) (ht : H t = some (.tup [.int (i : Nat), .int (j : Nat)])) (hu : H u = some (.tup [.int (j : Nat), .int (i : Nat)])) :
    EndsAre H (putK (putK kvs [Sum.inr a, Sum.inr b] (.ref t)) [Sum.inr b, Sum.inr a] (.ref u)) names (ps ++ [(a, b)]) := fun c d => by
  have k1 : ∀ {x y z w : Str}, (([Sum.inr x, Sum.inr y] : List Key) = [Sum.inr z, Sum.inr w]) ↔ (x = z ∧ y = w) := fun {x y z w} => by
    constructor
    · intro e; injection e with e1 e2; injection e2 with e2 _; injection e1 with e1; injection e2 with e2; exact ⟨e1, e2⟩
    · rintro ⟨rfl, rfl⟩; rfl
  rw [valV_put, valV_put]
  by_cases z1 : c = b ∧ d = a
  · obtain ⟨rfl, rfl⟩ := z1
    rw [if_pos rfl]
    exact ⟨fun _ => ⟨u, j, i, rfl, hu, hb, ha⟩, fun n => absurd (.inr (by simp)) n⟩
  rw [if_neg (fun z => z1 (k1.mp z))]
  by_cases z2 : c = a ∧ d = b
  · obtain ⟨rfl, rfl⟩ := z2
    rw [if_pos rfl]
    exact ⟨fun _ => ⟨t, i, j, rfl, ht, ha, hb⟩, fun n => absurd (.inl (by simp)) n⟩
  rw [if_neg (fun z => z2 (k1.mp z))]
  have eqv : ((c, d) ∈ ps ++ [(a, b)] ∨ (d, c) ∈ ps ++ [(a, b)]) ↔ ((c, d) ∈ ps ∨ (d, c) ∈ ps) := by
    simp only [List.mem_append, List.mem_singleton, Prod.mk.injEq]
    constructor
    · rintro ((h | h) | (h | h))
      · exact .inl h
      · exact absurd h z2
      · exact .inr h
      · exact absurd ⟨h.2, h.1⟩ z1
    · rintro (h | h)
      · exact .inl (.inl h)
      · exact .inr (.inl h)
  rw [eqv]
  exact h c d
section
variable {P : Program} {w : World} {K : PySem.W.Frag} {mg : Str → Option Value} {base : Heap} {f : Addr} {fd : FuncData} {T : Addr}
/-! ### road_ends -/
abbrev s_road_ends : Stmt := topS 26
abbrev N_road_ends : List Str := ["town", "homes", "roads", "place", "ends", "near", "far", "k", "name", "_"]
abbrev P_road_ends : List Str := ["town"]
theorem sc_road_ends : FnScope N_road_ends P_road_ends (defScope s_road_ends) := ⟨rfl, rfl, rfl, by decide +kernel, rfl, by decide +kernel, by decide +kernel⟩

def sp_road_ends : Sp := fun vs H Q _ => ∃ (v : V) (hm : List PyData) (ps : List (Str × Str)), vs = [v] ∧ DV H v (.tuple [.tuple hm, .tuple (ps.map pairOf)]) ∧ (∀ e ∈ hm, isEntry e = true) ∧ (hm.map entryName).Nodup ∧ (∀ p ∈ ps, p.1 ∈ hm.map entryName ∧ p.2 ∈ hm.map entryName) ∧
  ∀ H' e kvs, StayT H H' → H e = none → H' e = some (.dT kvs) → EndsAre H' kvs (hm.map entryName) ps → Q (.ref e) H'
theorem ok_road_ends (F : FnP K "road_ends" s_road_ends f fd) (fr : Free mg) : FnOk P w K mg base (L2.CX P w) 1 f fd P_road_ends sp_road_ends := by
  refine F.ok sc_road_ends (fun vs H Q E h => ?_) (fun cdv A outer s H vs Q E hr h => ⟨_, PSs.nox (pss_cons (ps_asg (pv 0) (pg_tup rfl (pgs_cons (pg_name (i := 1) sc_road_ends.nd rfl (Or.inl rfl)) (pgs_cons (pg_name (i := 2) sc_road_ends.nd rfl (Or.inl rfl)) pgs_nil))))
    (pss_cons (ps_setDc (i := 3) (own := [("k", 7), ("name", 8), ("_", 9)]) (g := gTup K 2 (gCons (gName 7) (gCons (gTup K 2 (gCons (gName 8) (gCons (gName 9) (gNil)))) (gNil)))) (tt := tYes) rfl sc_road_ends.nd rfl rfl (sw_dc rfl rfl rfl (by decide +kernel)) (pi_enumT rfl (fr "enumerate" (by decide)) (pa_cons (pv 1) pa_nil)) (blkOk_by (N := N_road_ends) (sc := defScope s_road_ends) (by decide +kernel)) (fun _ _ _ _ _ => (pg_tup rfl (pgs_cons (pg_name (i := 7) sc_road_ends.nd rfl (Or.inl rfl)) (pgs_cons (pg_tup rfl (pgs_cons (pg_name (i := 8) sc_road_ends.nd rfl (Or.inl rfl)) (pgs_cons (pg_name (i := 9) sc_road_ends.nd rfl (Or.inl rfl)) pgs_nil))) pgs_nil)))) (fun _ _ _ _ _ => pts_nil) (fun _ _ _ _ _ => (pv 8)) (fun _ _ _ _ _ => (pv 7)))
    (pss_cons (ps_set (i := 4) sc_road_ends.nd rfl (Or.inl rfl) pe_dnewT)
    (pss_cons (ps_for PassesOwn.never rfl (pi_tup (pv 2)) (pg_tup rfl (pgs_cons (pg_name (i := 5) sc_road_ends.nd rfl (Or.inl rfl)) (pgs_cons (pg_name (i := 6) sc_road_ends.nd rfl (Or.inl rfl)) pgs_nil))) (pss_cons (ps_dput (hu_of hr) (pv 4) (pe_tup (pa_cons (pv 5) (pa_cons (pv 6) pa_nil))) (pe_tup (pa_cons (pe_dget (hu_of hr) (pv 3) (pv 5) (fun _ _ => rfl)) (pa_cons (pe_dget (hu_of hr) (pv 3) (pv 6) (fun _ _ => rfl)) pa_nil))) rfl)
    (pss_one (ps_dput (hu_of hr) (pv 4) (pe_tup (pa_cons (pv 6) (pa_cons (pv 5) pa_nil))) (pe_tup (pa_cons (pe_dget (hu_of hr) (pv 3) (pv 6) (fun _ _ => rfl)) (pa_cons (pe_dget (hu_of hr) (pv 3) (pv 5) (fun _ _ => rfl)) pa_nil))) rfl))))
    (pss_one (ps_ret (pv 4))))))), ?_⟩)
  · obtain ⟨v, hm, ps, rfl, _⟩ := h; rfl
  · obtain ⟨v, hm, ps, rfl, hd, he, nd, hps, q⟩ := h
    obtain ⟨p, zs, rfl, hp, hzs, _⟩ := dv_tup hd
    cases hzs with
    | @cons va vs0 d0 ds0 ha t0 =>
    cases t0 with
    | @cons vb vs1 d1 ds1 hb t1 =>
    cases t1
    obtain ⟨aa, xa, rfl, haa, hxa, hla⟩ := dv_tup ha
    obtain ⟨ab, xb, rfl, hab, hxb, hlb⟩ := dv_tup hb
    refine ⟨_, rfl, p, _, rfl, SqT.of hp, rfl, _, _, rfl, _, _, rfl, rfl, ?_⟩
    refine ⟨_, rfl, aa, xa, rfl, SqT.of haa, fun nd0 nnd => ?_⟩
    have names : ∀ i, i < hm.length → (hm.map entryName)[i]? = some (entryName (hm.getD i .none)) := fun i hi => by
      rw [List.getElem?_map, List.getD_eq_getElem?_getD, List.getElem?_eq_getElem hi]; rfl
    refine dc_it (walk_enumT (xs := xa)) (fun i G => StayT H G ∧ ∃ kvs, G nd0 = some (.dK kvs) ∧ PlaceAre kvs (hm.map entryName) i ∧ kvs.length ≤ i) ?c0 ?cG ?cs ?cd
    case c0 =>
      refine ⟨(StayT.refl H).new nnd, [], upd_same, fun n v => ?_, Nat.le_refl _⟩
      constructor
      · intro z; cases z
      · rintro ⟨k, hk, _⟩; exact absurd hk (Nat.not_lt_zero _)
    case cG =>
      rintro i G hi ⟨s1, _⟩
      exact SqT.of (s1.same _ _ haa fun _ z => nomatch z)
    case cs =>
      rintro i y G G1 hi ⟨s1, kvs, hnd, pl, hle⟩ ⟨tp, i0, x, rfl, htp, rfl, e0, hx⟩
      cases e0
      obtain ⟨d, hd1, hdx, _, _⟩ := dvs_at hxa hx
      have en := he d (List.mem_of_getElem? hd1)
      obtain ⟨n0, w0, rfl, _, _⟩ := entry_shape en
      have s2 := s1.new (o := .tup [.int (i : Nat), x]) htp
      have hnd2 : upd G tp (.tup [.int (i : Nat), x]) nd0 = some (.dK kvs) := by rw [upd_ne (ne_of_none hnd htp)]; exact hnd
      obtain ⟨pa, zs, rfl, hpa, hzs, _⟩ := dv_tup (hdx.stay s2)
      cases hzs with
      | @cons v0 vs0 d0 ds0 h0 t0 =>
      cases t0 with
      | @cons v1 vs1 d1 ds1 h1 t1 =>
      cases t1
      cases dv_str h0
      have lx : xa.length = hm.length := hxa.length
      have hi2 : i < hm.length := by omega
      have nm : (hm.map entryName)[i]? = some n0 := by rw [List.getElem?_map, hd1]; rfl
      refine ⟨tp, _, rfl, SqT.of upd_same, rfl, _, _, rfl, _, _, rfl, pa, _, rfl, SqT.of hpa, rfl, _, _, rfl, _, _, rfl, rfl, rfl, rfl, ?_⟩
      refine yes_go ⟨_, rfl, _, rfl, kvs, Sum.inr n0, rfl, hnd2, ?_, s2.upd nnd, _, upd_same, place_put pl nd nm, ?_⟩
      · exact Nat.lt_of_le_of_lt (show kvs.length ≤ 1000 by omega) (by decide)
      · have := putK_le kvs (Sum.inr n0) (.int (i : Nat)); omega
    case cd =>
      rintro G ⟨s1, kvs, hnd, pl, hle⟩
      refine fun jd njd => ?_
      have jd0 : H jd = none := s1.none njd
      have jd_nd : nd0 ≠ jd := ne_of_none hnd njd
      have hnd1 : upd G jd (.dT []) nd0 = some (.dK kvs) := by rw [upd_ne jd_nd]; exact hnd
      have s2 := s1.new (o := .dT []) njd
      have lx : xa.length = hm.length := hxa.length
      rw [lx] at pl
      have val : ∀ {n : Str} {k : Nat}, (hm.map entryName)[k]? = some n → valV kvs (Sum.inr n) = some (.int (k : Nat)) := fun {n k} h => (pl n _).mpr ⟨k, by
        have := (List.getElem?_eq_some_iff.mp h).1
        rw [List.length_map] at this; exact this, h, rfl⟩
      have lb : xb.length = ps.length := by have := hxb.length; rw [List.length_map] at this; exact this
      rw [List.length_map] at hlb
      have jin : jd ∈ [jd] := List.mem_singleton.mpr rfl
      refine ⟨_, rfl, ab, rfl, ⟨_, SqT.of (s2.same _ _ hab fun _ z => nomatch z)⟩, ?_⟩
      refine for_it (walk_tup (xs := xb)) (fun i σ G1 => ∃ (o5 o6 : Option V) (ks : List (List Key × V)), σ = [some (.ref p), some (.ref aa), some (.ref ab), some (.ref nd0), some (.ref jd), o5, o6, none, none, none] ∧ StayT H G1 ∧ G1 nd0 = some (.dK kvs) ∧ G1 jd = some (.dT ks) ∧ EndsAre (wl [jd] G1) ks (hm.map entryName) (ps.take i) ∧ ks.length ≤ 2 * i) ?e0 ?eG ?es ?ed
      case e0 => exact ⟨none, none, [], rfl, s2, hnd1, upd_same, fun a b => ⟨fun h => by simp at h, fun _ => rfl⟩, Nat.zero_le _⟩
      case eG =>
        rintro i σ G1 hi ⟨o5, o6, ks, rfl, s3, _⟩
        exact SqT.of (s3.same _ _ hab fun _ z => nomatch z)
      case es =>
        rintro i x σ _ G1 hi ⟨o5, o6, ks, rfl, s3, h3, hj, en, hle2⟩ ⟨rfl, hx⟩
        obtain ⟨d, hd1, hdx⟩ := hxb.get hx
        obtain ⟨⟨a, b⟩, hq0, rfl⟩ : ∃ q, ps[i]? = some q ∧ pairOf q = d := by
          rw [List.getElem?_map] at hd1
          cases hq : ps[i]? with
          | none => rw [hq] at hd1; cases hd1
          | some q => rw [hq] at hd1; exact ⟨q, rfl, Option.some.inj hd1⟩
        obtain ⟨m1, m2⟩ := hps _ (List.mem_of_getElem? hq0)
        obtain ⟨i1, hi1⟩ := List.getElem?_of_mem m1
        obtain ⟨i2, hi2⟩ := List.getElem?_of_mem m2
        have tk : ps.take (i + 1) = ps.take i ++ [(a, b)] := by rw [List.take_add_one, hq0]; rfl
        obtain ⟨rb, zs, rfl, hrb, hzs, _⟩ := dv_tup hdx
        cases hzs with
        | @cons va vs0 d0 ds0 hva t0 =>
        cases t0 with
        | @cons vb vs1 d1 ds1 hvb t1 =>
        cases t1
        cases dv_str hva
        cases dv_str hvb
        refine ⟨rb, _, rfl, SqT.of (s3.same _ _ hrb fun _ z => nomatch z), rfl, _, _, rfl, _, _, rfl, rfl, ?_⟩
        refine ⟨_, rfl, _, rfl, nd0, _, rfl, .inl ⟨kvs, Sum.inr a, .inl h3, rfl, (val hi1).symm⟩, _, rfl, _, rfl, nd0, _, rfl, .inl ⟨kvs, Sum.inr b, .inl h3, rfl, (val hi2).symm⟩, by show 2 ≤ sizeLine; decide, fun t nt => ?_⟩
        have lt : ks.length + 1 < sizeLine := Nat.lt_of_le_of_lt (show ks.length + 1 ≤ 2001 by omega) (by decide)
        -- the first
        have t_jd : t ≠ jd := fun z => by rw [z, hj] at nt; cases nt
        have t_nd : t ≠ nd0 := fun z => by rw [z, h3] at nt; cases nt
        have s4 := s3.new (o := .tup [.int (i1 : Nat), .int (i2 : Nat)]) nt
        have h4 : upd G1 t (.tup [.int (i1 : Nat), .int (i2 : Nat)]) nd0 = some (.dK kvs) := by rw [upd_ne t_nd.symm]; exact h3
        have j4 : upd G1 t (.tup [.int (i1 : Nat), .int (i2 : Nat)]) jd = some (.dT ks) := by rw [upd_ne t_jd.symm]; exact hj
        have en4 := en.stay (wl_alloc (ms := [jd]) (o := .tup [.int (i1 : Nat), .int (i2 : Nat)]) nt)
        have t4 : wl [jd] (upd G1 t (.tup [.int (i1 : Nat), .int (i2 : Nat)])) t = some (.tup [.int (i1 : Nat), .int (i2 : Nat)]) := by rw [wl_out (by simpa using t_jd)]; exact upd_same
        refine ⟨_, rfl, _, rfl, _, rfl, by show 2 ≤ sizeLine; decide, fun k1 nk1 => ?_⟩
        generalize upd G1 t (.tup [.int (i1 : Nat), .int (i2 : Nat)]) = G4 at s4 h4 j4 en4 t4 nk1
        clear s3 h3 hj en nt
        have k1_jd : k1 ≠ jd := fun z => by rw [z, j4] at nk1; cases nk1
        have k1_nd : k1 ≠ nd0 := fun z => by rw [z, h4] at nk1; cases nk1
        refine ⟨jd, _, rfl, DPut.t (k := [Sum.inr a, Sum.inr b]) (by rw [upd_ne k1_jd.symm]; exact j4) upd_same (by omega), ?_⟩
        have s5 := (s4.new (o := .tup [.str a, .str b]) nk1).upd (o := .dT (putK ks [Sum.inr a, Sum.inr b] (.ref t))) jd0
        have h5 : upd (upd G4 k1 (.tup [.str a, .str b])) jd (.dT (putK ks [Sum.inr a, Sum.inr b] (.ref t))) nd0 = some (.dK kvs) := by rw [upd_ne jd_nd, upd_ne k1_nd.symm]; exact h4
        have j5 : upd (upd G4 k1 (.tup [.str a, .str b])) jd (.dT (putK ks [Sum.inr a, Sum.inr b] (.ref t))) jd = some (.dT (putK ks [Sum.inr a, Sum.inr b] (.ref t))) := upd_same
        have w5 : StayT (wl [jd] G4) (wl [jd] (upd (upd G4 k1 (.tup [.str a, .str b])) jd (.dT (putK ks [Sum.inr a, Sum.inr b] (.ref t))))) := by
          rw [wl_upd_in jin]; exact wl_alloc nk1
        have en5 := en4.stay w5
        have t5 := w5.same _ _ t4 fun _ z => nomatch z
        have s5' : StayT H (upd (upd G4 k1 (HO.tup [V.str (a, b).1, V.str (a, b).2])) jd (HO.dT (putK ks [Sum.inr a, Sum.inr b] (V.ref t)))) := s5
        have h5' : upd (upd G4 k1 (HO.tup [V.str (a, b).1, V.str (a, b).2])) jd (HO.dT (putK ks [Sum.inr a, Sum.inr b] (V.ref t))) nd0 = some (.dK kvs) := h5
        have j5' : upd (upd G4 k1 (HO.tup [V.str (a, b).1, V.str (a, b).2])) jd (HO.dT (putK ks [Sum.inr a, Sum.inr b] (V.ref t))) jd = some (.dT (putK ks [Sum.inr a, Sum.inr b] (.ref t))) := j5
        have en5' : EndsAre (wl [jd] (upd (upd G4 k1 (HO.tup [V.str (a, b).1, V.str (a, b).2])) jd (HO.dT (putK ks [Sum.inr a, Sum.inr b] (V.ref t))))) _ _ _ := en5
        have t5' : wl [jd] (upd (upd G4 k1 (HO.tup [V.str (a, b).1, V.str (a, b).2])) jd (HO.dT (putK ks [Sum.inr a, Sum.inr b] (V.ref t)))) t = some (.tup [.int (i1 : Nat), .int (i2 : Nat)]) := t5
        clear s5 h5 j5 en5 t5
        generalize upd (upd G4 k1 (HO.tup [V.str (a, b).1, V.str (a, b).2])) jd (HO.dT (putK ks [Sum.inr a, Sum.inr b] (V.ref t))) = G5 at s5' h5' j5' en5' t5' ⊢
        clear s4 h4 j4 en4 t4 nk1 w5
        have s5 := s5'; have h5 := h5'; have j5 := j5'; have en5 := en5'; have t5 := t5'
        clear s5' h5' j5' en5' t5'
        -- the second
        refine ⟨_, rfl, _, rfl, nd0, _, rfl, .inl ⟨kvs, Sum.inr b, .inl h5, rfl, (val hi2).symm⟩, _, rfl, _, rfl, nd0, _, rfl, .inl ⟨kvs, Sum.inr a, .inl h5, rfl, (val hi1).symm⟩, by show 2 ≤ sizeLine; decide, fun u nu => ?_⟩
        have u_jd : u ≠ jd := fun z => by rw [z, j5] at nu; cases nu
        have u_nd : u ≠ nd0 := fun z => by rw [z, h5] at nu; cases nu
        have s6 := s5.new (o := .tup [.int (i2 : Nat), .int (i1 : Nat)]) nu
        have h6 : upd G5 u (.tup [.int (i2 : Nat), .int (i1 : Nat)]) nd0 = some (.dK kvs) := by rw [upd_ne u_nd.symm]; exact h5
        have j6 : upd G5 u (.tup [.int (i2 : Nat), .int (i1 : Nat)]) jd = some (.dT (putK ks [Sum.inr a, Sum.inr b] (.ref t))) := by rw [upd_ne u_jd.symm]; exact j5
        have w6 := wl_alloc (ms := [jd]) (o := .tup [.int (i2 : Nat), .int (i1 : Nat)]) nu
        have en6 := en5.stay w6
        have t6 := w6.same _ _ t5 fun _ z => nomatch z
        have u6 : wl [jd] (upd G5 u (.tup [.int (i2 : Nat), .int (i1 : Nat)])) u = some (.tup [.int (i2 : Nat), .int (i1 : Nat)]) := by rw [wl_out (by simpa using u_jd)]; exact upd_same
        refine ⟨_, rfl, _, rfl, _, rfl, by show 2 ≤ sizeLine; decide, fun k2 nk2 => ?_⟩
        generalize upd G5 u (.tup [.int (i2 : Nat), .int (i1 : Nat)]) = G6 at s6 h6 j6 en6 t6 u6 nk2
        have k2_jd : k2 ≠ jd := fun z => by rw [z, j6] at nk2; cases nk2
        have k2_nd : k2 ≠ nd0 := fun z => by rw [z, h6] at nk2; cases nk2
        have l1 := putK_le ks [Sum.inr a, Sum.inr b] (.ref t)
        refine ⟨jd, _, rfl, DPut.t (k := [Sum.inr b, Sum.inr a]) (by rw [upd_ne k2_jd.symm]; exact j6) upd_same (by omega), ?_⟩
        have l2 := putK_le (putK ks [Sum.inr a, Sum.inr b] (.ref t)) [Sum.inr b, Sum.inr a] (.ref u)
        refine ⟨_, _, _, rfl, (s6.new nk2).upd jd0, by rw [upd_ne jd_nd, upd_ne k2_nd.symm]; exact h6, upd_same, ?_, by omega⟩
        rw [wl_upd_in jin, tk]
        have w7 := wl_alloc (ms := [jd]) (o := .tup [.str b, .str a]) nk2
        exact ends_put (en6.stay w7) hi1 hi2 (w7.same _ _ t6 fun _ z => nomatch z) (w7.same _ _ u6 fun _ z => nomatch z)
      case ed =>
        rintro σ G1 ⟨o5, o6, ks, rfl, s3, h3, hj, en, hle2⟩
        rw [lb, List.take_length] at en
        exact ⟨_, rfl, q _ jd ks s3 jd0 hj (en.stay (stay_wl _ _))⟩
end
end WR
namespace WR
open PySem PySem.Spec PyProof.Rows L2
/-! ## [name for name, worth in homes] -/
theorem lc_names {K : PySem.W.Frag} {aa : Addr} {xs : List V} {hm : List PyData} {H : Hp} (haa : H aa = some (.tup xs)) (hxs : DVs H xs hm) (he : ∀ e ∈ hm, isEntry e = true) (hl : hm.length ≤ 1000) {σ : L2.St} {i j : Nat} {D : Addr} (nD : H D = none) {Qd : Hp → Prop}
    (hw : ∀ u v : V, wipe (((wipe σ [i, j]).set i (some u)).set j (some v)) [i, j] = wipe σ [i, j]) (hv : ∀ u v : V, (((wipe σ [i, j]).set i (some u)).set j (some v))[i]? = some (some u))
    (hd : ∀ H1, StayT H H1 → H1 D = some (.lst ((hm.map entryName).map V.str)) → Qd H1) :
    ∃ W : Nat → Nat → Hp → Prop, (∃ m, W 0 m (upd H D (.lst []))) ∧ ∀ k m H, W k m H → (Itt K aa).stop k H ∧ Qd H ∨ (Itt K aa).go k H ∧ ∃ Nx : Hp → Prop, (∀ H', Nx H' → ∃ m', m' < m ∧ W (k + 1) m' H') ∧
      ∀ x H', (Itt K aa).yld k H x H' → gTup K 2 (gCons (gName i) (gCons (gName j) gNil)) x (wipe σ [i, j]) H' fun σ2 H2 => wipe σ2 [i, j] = wipe σ [i, j] ∧ tYes σ2 H2 fun b H3 => if b = true then tVar i σ2 H3 fun y H4 => ∃ acc, H4 D = some (.lst acc) ∧ acc.length < sizeLine ∧ Nx (upd H4 D (.lst (acc ++ [y]))) else Nx H3 := by
  have lx := hxs.length
  refine lc_it (g := gTup K 2 (gCons (gName i) (gCons (gName j) gNil))) (vs := [i, j]) (walk_tup (xs := xs)) (fun k H1 => StayT H H1 ∧ H1 D = some (.lst (((hm.take k).map entryName).map V.str))) ?h0 ?hG ?hs ?hd
  case h0 => exact ⟨(StayT.refl H).new nD, upd_same⟩
  case hG => exact fun k H1 _ h => SqT.of (h.1.same _ _ haa fun _ z => nomatch z)
  case hs =>
    rintro k x _ H1 hi ⟨s1, hD⟩ ⟨rfl, hx⟩
    obtain ⟨dh, hh1, hdx, _, htk⟩ := dvs_at hxs hx
    obtain ⟨n0, w0, rfl, _, _⟩ := entry_shape (he dh (List.mem_of_getElem? hh1))
    obtain ⟨xa0, zx, rfl, hx0, hzx, _⟩ := dv_tup (hdx.stay s1)
    cases hzx with
    | @cons v0 vs0 d0 ds0 g0 t0 =>
    cases t0 with
    | @cons v1 vs1 d1 ds1 g1 t1 =>
    cases t1
    cases dv_str g0
    cases dv_int g1
    refine ⟨xa0, _, rfl, SqT.of hx0, rfl, _, _, rfl, _, _, rfl, rfl, hw _ _, yes_go ⟨_, hv _ _, _, hD, ?_, s1.upd nD, ?_⟩⟩
    · rw [List.length_map, List.length_map, List.length_take]
      exact Nat.lt_of_le_of_lt (show min k hm.length ≤ 1000 by omega) (by decide)
    · rw [upd_same, htk, List.map_append, List.map_append]
      rfl
  case hd =>
    rintro H1 ⟨s1, hD⟩
    rw [lx, List.take_length] at hD
    exact hd H1 s1 hD
/-- [home[0] for home in homes] -/
theorem lc_firsts {K : PySem.W.Frag} {aa : Addr} {xs : List V} {hm : List PyData} {H : Hp} (haa : H aa = some (.tup xs)) (hxs : DVs H xs hm) (he : ∀ e ∈ hm, isEntry e = true) (hl : hm.length ≤ 1000) {σ : L2.St} {j : Nat} {D : Addr} (nD : H D = none) {Qd : Hp → Prop}
    (hw : ∀ u : V, wipe ((wipe σ [j]).set j (some u)) [j] = wipe σ [j]) (hv : ∀ u : V, ((wipe σ [j]).set j (some u))[j]? = some (some u))
    (hd : ∀ H1, StayT H H1 → H1 D = some (.lst ((hm.map entryName).map V.str)) → Qd H1) :
    ∃ W : Nat → Nat → Hp → Prop, (∃ m, W 0 m (upd H D (.lst []))) ∧ ∀ k m H, W k m H → (Itt K aa).stop k H ∧ Qd H ∨ (Itt K aa).go k H ∧ ∃ Nx : Hp → Prop, (∀ H', Nx H' → ∃ m', m' < m ∧ W (k + 1) m' H') ∧
      ∀ x H', (Itt K aa).yld k H x H' → gName j x (wipe σ [j]) H' fun σ2 H2 => wipe σ2 [j] = wipe σ [j] ∧ tYes σ2 H2 fun b H3 => if b = true then tOp rItemD (tVar j) (tC (.int 0)) σ2 H3 fun y H4 => ∃ acc, H4 D = some (.lst acc) ∧ acc.length < sizeLine ∧ Nx (upd H4 D (.lst (acc ++ [y]))) else Nx H3 := by
  have lx := hxs.length
  refine lc_it (g := gName j) (te := tOp rItemD (tVar j) (tC (.int 0))) (vs := [j]) (walk_tup (xs := xs)) (fun k H1 => StayT H H1 ∧ H1 D = some (.lst (((hm.take k).map entryName).map V.str))) ?h0 ?hG ?hs ?hd
  case h0 => exact ⟨(StayT.refl H).new nD, upd_same⟩
  case hG => exact fun k H1 _ h => SqT.of (h.1.same _ _ haa fun _ z => nomatch z)
  case hs =>
    rintro k x _ H1 hi ⟨s1, hD⟩ ⟨rfl, hx⟩
    obtain ⟨dh, hh1, hdx, _, htk⟩ := dvs_at hxs hx
    obtain ⟨n0, w0, rfl, _, _⟩ := entry_shape (he dh (List.mem_of_getElem? hh1))
    refine ⟨hw _, yes_go ⟨_, hv _, _, .str n0, 0, hdx.stay s1, rfl, rfl, fun y hy => ?_⟩⟩
    cases dv_str hy
    refine ⟨_, hD, ?_, s1.upd nD, ?_⟩
    · rw [List.length_map, List.length_map, List.length_take]
      exact Nat.lt_of_le_of_lt (show min k hm.length ≤ 1000 by omega) (by decide)
    · rw [upd_same, htk, List.map_append, List.map_append]
      rfl
  case hd =>
    rintro H1 ⟨s1, hD⟩
    rw [lx, List.take_length] at hD
    exact hd H1 s1 hD
/-- names.index(x) -/
theorem idx_facts {names : List Str} {i : Nat} {a : Str} (nd : names.Nodup) (hi : names[i]? = some a) : (names.map V.str).all flatV = true ∧ (names.map V.str)[i]? = some (.str a) ∧ eqV (.str a) (.str a) = true ∧ ∀ (m : Nat) (z : V), m < i → (names.map V.str)[m]? = some z → eqV z (.str a) = false := by
  refine ⟨?_, by rw [List.getElem?_map, hi]; rfl, ?_, fun m z hm hz => ?_⟩
  · rw [List.all_map]
    exact List.all_eq_true.mpr fun x _ => rfl
  · simp [eqV]
  · rw [List.getElem?_map] at hz
    obtain ⟨x, hx, rfl⟩ := Option.map_eq_some_iff.mp hz
    have ne : x ≠ a := fun e => by
      subst e
      have := nodup_at nd hx hi
      omega
    simp [eqV, ne]
/-- the place of a name -/
def idxS : List Str → Str → Nat
  | [], _ => 0
  | x :: xs, n => if x = n then 0 else idxS xs n + 1
theorem idxS_get : ∀ {names : List Str} {i : Nat} {n : Str}, names.Nodup → names[i]? = some n → idxS names n = i
  | [], _, _, _, h => by cases h
  | x :: xs, 0, n, _, h => by
    cases h
    show (if _ then _ else _) = 0
    rw [if_pos rfl]
  | x :: xs, i + 1, n, nd, h => by
    obtain ⟨nx, nd2⟩ := List.nodup_cons.mp nd
    have h2 : xs[i]? = some n := h
    show (if x = n then 0 else idxS xs n + 1) = i + 1
    rw [if_neg (fun (z : x = n) => nx (by rw [z]; exact List.mem_of_getElem? h2)), idxS_get nd2 h2]
theorem idxS_lt : ∀ {names : List Str} {n : Str}, n ∈ names → idxS names n < names.length ∧ names[idxS names n]? = some n
  | x :: xs, n, h => by
    show (if x = n then 0 else idxS xs n + 1) < _ ∧ (x :: xs)[if x = n then 0 else idxS xs n + 1]? = _
    by_cases e : x = n
    · rw [if_pos e, e]; exact ⟨Nat.succ_pos _, rfl⟩
    · rw [if_neg e]
      rcases List.mem_cons.mp h with z | z
      · exact absurd z.symm e
      · obtain ⟨a, b⟩ := idxS_lt z
        exact ⟨Nat.succ_lt_succ a, b⟩
theorem idx_first : ∀ {l : List Str} {a : Str}, a ∈ l → l[idxS l a]? = some a ∧ ∀ m, m < idxS l a → l[m]? ≠ some a
  | [], _, h => by cases h
  | x :: l, a, h => by
    by_cases e : x = a
    · have z : idxS (x :: l) a = 0 := if_pos e
      rw [z]
      exact ⟨by rw [e]; rfl, fun m hm => absurd hm (Nat.not_lt_zero m)⟩
    · have z : idxS (x :: l) a = idxS l a + 1 := if_neg e
      rcases List.mem_cons.mp h with q | q
      · exact absurd q.symm e
      obtain ⟨h1, h2⟩ := idx_first q
      rw [z]
      refine ⟨by simpa using h1, fun m hm => ?_⟩
      cases m with
      | zero => intro y; exact e (Option.some.inj y)
      | succ m => exact fun y => h2 m (by omega) (by simpa using y)
theorem idx_facts2 {l : List Str} {a : Str} (h : a ∈ l) : (l.map V.str).all flatV = true ∧ (l.map V.str)[idxS l a]? = some (.str a) ∧ eqV (.str a) (.str a) = true ∧ ∀ (m : Nat) (z : V), m < idxS l a → (l.map V.str)[m]? = some z → eqV z (.str a) = false := by
  obtain ⟨h1, h2⟩ := idx_first h
  refine ⟨?_, by rw [List.getElem?_map, h1]; rfl, by simp [eqV], fun m z hm hz => ?_⟩
  · rw [List.all_map]
    exact List.all_eq_true.mpr fun x _ => rfl
  · rw [List.getElem?_map] at hz
    obtain ⟨x, hx, rfl⟩ := Option.map_eq_some_iff.mp hz
    have ne : x ≠ a := fun y => h2 m hm (by rw [hx, y])
    simp [eqV, ne]
theorem cutV_from {xs : List V} {i : Nat} (h : i < xs.length) : cutV xs (some ((i : Int) + 1)) none = xs.drop (i + 1) := by
  unfold cutV
  have e1 : HT.sIx xs.length 0 (some ((i : Int) + 1)) = i + 1 := by
    unfold HT.sIx
    simp only
    split <;> omega
  have e2 : HT.sIx xs.length xs.length none = xs.length := rfl
  rw [e1, e2]
  exact List.take_of_length_le (by rw [List.length_drop]; exact Nat.le_refl _)
end WR
namespace WR
open PySem PySem.Spec PyProof.Rows L2
section
variable {P : Program} {w : World} {K : PySem.W.Frag} {mg : Str → Option Value} {base : Heap} {f : Addr} {fd : FuncData} {T : Addr}
/-- what lacks for the exchange of a road -/
def lackD (hm st : List PyData) (p : Str × Str) : PyData := shortD hm st (idxS (hm.map entryName) p.1) (idxS (hm.map entryName) p.2)
/-- may it be done? -/
def goes (hm st : List PyData) (p : Str × Str) : Bool := match lackD hm st p with | .none => true | _ => false
theorem shortD_is (hm st : List PyData) (i j : Nat) (hs : ∀ e ∈ st, held e) : shortD hm st i j = .none ∨ ∃ n c, shortD hm st i j = .tuple [.str n, .int c] := by
  unfold shortD
  generalize (if 0 < riseOf hm i j then st.getD i .none else st.getD j .none) = d
  unfold shortOf
  split
  · split
    · exact .inl rfl
    · exact .inr ⟨_, _, rfl⟩
  · exact .inl rfl
theorem dv_non {H : Hp} {v : V} (h : DV H v .none) : v = .non := by cases h; rfl
/-! ### may -/
abbrev s_may : Stmt := topS 33
abbrev N_may : List Str := ["town", "standing", "homes", "roads", "ends", "found", "road", "one", "other"]
abbrev P_may : List Str := ["town", "standing"]
theorem sc_may : FnScope N_may P_may (defScope s_may) := ⟨rfl, rfl, rfl, by decide +kernel, rfl, by decide +kernel, by decide +kernel⟩

def sp_may (T CT CS : Addr) : Sp := fun vs H Q E => ∃ v d v2 d2, vs = [v, v2] ∧ DV H v d ∧ DV H v2 d2 ∧ TG T H ∧
  (∀ (hm : List PyData) (ps : List (Str × Str)) (st : List PyData), d = .tuple [.tuple hm, .tuple (ps.map pairOf)] → d2 = .tuple st → townWrong d = .none → standingWrong d d2 = .none → ∀ H' a ys, StayT H H' → H a = none → H' a = some (.lst ys) → DVs (wl [a] H') ys ((ps.filter (goes hm st)).map pairOf) → Q (.ref a) H') ∧
  (townWrong d ≠ .none → RaisesF CT "wrong" (townWrong d) H E) ∧ (townWrong d = .none → standingWrong d d2 ≠ .none → RaisesF CS "wrong" (standingWrong d d2) H E)
theorem ok_may2 {CT CS : Addr} (F : FnP K "may" s_may f fd) (fr : Free mg) (c_check_standing : Cal P w K mg base "check_standing" 7 P_check_standing (sp_check_standing T CT CS))
    (c_road_ends : Cal P w K mg base "road_ends" 1 P_road_ends sp_road_ends) (c_shortage : Cal P w K mg base "shortage" 1 P_shortage sp_shortage) :
    FnOk P w K mg base (L2.CX P w) 8 f fd P_may (sp_may T CT CS) := by
  refine F.ok sc_may (fun vs H Q E h => ?_) (fun cdv A outer s H vs Q E hr h => ⟨_, (pss_cons (ps_expr (pe_X (W := fun cls d _ H => E cls d H) c_check_standing (hr.mono (by omega)) (takes_of (E := E) rfl rfl rfl rfl) (pa_cons (pv 0) (pa_cons (pv 1) pa_nil))))
    (pss_cons (ps_asg (pv 0) (pg_tup rfl (pgs_cons (pg_name (i := 2) sc_may.nd rfl (Or.inl rfl)) (pgs_cons (pg_name (i := 3) sc_may.nd rfl (Or.inl rfl)) pgs_nil))))
    (pss_cons (ps_set (i := 4) sc_may.nd rfl (Or.inl rfl) (pe_F c_road_ends (hr.mono (by omega)) (pa_cons (pv 0) pa_nil)))
    (pss_cons (ps_set (i := 5) sc_may.nd rfl (Or.inl rfl) (pe_lst pa_nil))
    (pss_cons (ps_for (passes_of rfl) rfl (pi_tup (pv 3)) (pg_name (i := 6) sc_may.nd rfl (Or.inl rfl)) (pss_cons (ps_asg (pe_dget (hu_of hr) (pv 4) (pv 6) (fun _ _ => rfl)) (pg_tup rfl (pgs_cons (pg_name (i := 7) sc_may.nd rfl (Or.inl rfl)) (pgs_cons (pg_name (i := 8) sc_may.nd rfl (Or.inl rfl)) pgs_nil))))
    (pss_one (ps_if (pt_cmpR op_isN (pe_F c_shortage (hr.mono (by omega)) (pa_cons (pv 2) (pa_cons (pv 1) (pa_cons (pv 7) (pa_cons (pv 8) pa_nil))))) pe_non (nomark _)) (pss_one (ps_expr (pe_bm PySem.F.plainAttrs_list PySem.F.slot_list_append PySem.F.type_list_append mt_append (pv 5) (pa_cons (pv 6) pa_nil)))) pss_nil))))
    (pss_one (ps_ret (pv 5)))))))), ?_⟩)
  · obtain ⟨v, d, v2, d2, rfl, _⟩ := h; rfl
  · obtain ⟨v, d, v2, d2, rfl, hd, hd2, tg, q, x⟩ := h
    refine ⟨v, rfl, v2, rfl, v, d, v2, d2, rfl, hd, hd2, tg, fun tw sw H1 s1 => ?_, x⟩
    obtain ⟨hm, rs, st, rfl, rfl, len, he, hs, nd⟩ := standing_shape tw sw
    obtain ⟨d0, l0, rs0, e0, bh, br⟩ := town_shape tw
    cases e0
    obtain ⟨ps, rfl, hps⟩ := badRoad_is _ _ _ _ br
    have ndn := badHome_nodup _ _ _ bh List.nodup_nil
    rw [List.nil_append] at ndn
    generalize d0 :: l0 = hm at *
    replace q := q hm ps st rfl rfl tw sw
    have hd1 := hd.stay s1
    obtain ⟨p, zs, rfl, hp, hzs, _⟩ := dv_tup hd1
    cases hzs with
    | @cons va vs0 d0 ds0 ha t0 =>
    cases t0 with
    | @cons vb vs1 d1 ds1 hb t1 =>
    cases t1
    obtain ⟨ab, xb, rfl, hab, hxb, hlb⟩ := dv_tup hb
    have lb : xb.length = ps.length := by have := hxb.length; rw [List.length_map] at this; exact this
    rw [List.length_map] at hlb
    refine ⟨_, rfl, p, _, rfl, SqT.of hp, rfl, _, _, rfl, _, _, rfl, rfl, ?_⟩
    refine ⟨_, rfl, _, hm, ps, rfl, hd1, he, ndn, hps, fun H2 ed kvs s2 ned hed en => ?_⟩
    refine ⟨by show 0 ≤ sizeLine; decide, fun fo nfo => ?_⟩
    have fo0 : H1 fo = none := s2.none nfo
    have s3 := s2.new (o := .lst []) nfo
    have wn : wl [fo] (upd H2 fo (.lst [])) = wl [fo] H2 := wl_upd_in (List.mem_singleton.mpr rfl)
    have hed3 : upd H2 fo (.lst []) ed = some (.dT kvs) := by rw [upd_ne (ne_of_none hed nfo)]; exact hed
    have en3 : EndsAre (wl [fo] (upd H2 fo (.lst []))) kvs (hm.map entryName) ps := by
      have w0 : wl [fo] H2 = H2 := funext fun b => by
        by_cases e : b = fo
        · rw [e, wl_in (List.mem_singleton.mpr rfl), nfo]
        · exact wl_out (by simpa using e)
      rw [wn, w0]; exact en
    refine ⟨_, rfl, ab, rfl, ⟨_, SqT.of (s3.same _ _ hab fun _ z => nomatch z)⟩, ?_⟩
    refine for_it (walk_tup (xs := xb)) (fun i σ G => ∃ (o6 o7 o8 : Option V) (ys : List V), σ = [some (.ref p), some v2, some va, some (.ref ab), some (.ref ed), some (.ref fo), o6, o7, o8] ∧ StayT H1 G ∧ G ed = some (.dT kvs) ∧ G fo = some (.lst ys) ∧ EndsAre (wl [fo] G) kvs (hm.map entryName) ps ∧ DVs (wl [fo] G) ys (((ps.take i).filter (goes hm st)).map pairOf) ∧ ys.length ≤ i) ?e0 ?eG ?es ?ed
    case e0 => exact ⟨none, none, none, [], rfl, s3, hed3, upd_same, en3, .nil, Nat.le_refl _⟩
    case eG =>
      rintro i σ G hi ⟨o6, o7, o8, ys, rfl, sG, _⟩
      exact SqT.of (sG.same _ _ hab fun _ z => nomatch z)
    case ed =>
      rintro σ G ⟨o6, o7, o8, ys, rfl, sG, hedG, hfo, enG, dys, hl⟩
      rw [lb, List.take_length] at dys
      exact ⟨_, rfl, q _ fo ys (s1.trans sG) (s1.none fo0) hfo dys⟩
    case es =>
      rintro i x σ _ G hi ⟨o6, o7, o8, ys, rfl, sG, hedG, hfo, enG, dys, hl⟩ ⟨rfl, hx⟩
      obtain ⟨d, hdd, hdx⟩ := hxb.get hx
      obtain ⟨⟨a, b⟩, hq0, rfl⟩ : ∃ q, ps[i]? = some q ∧ pairOf q = d := by
        rw [List.getElem?_map] at hdd
        cases hq : ps[i]? with
        | none => rw [hq] at hdd; cases hdd
        | some q => rw [hq] at hdd; exact ⟨q, rfl, Option.some.inj hdd⟩
      have tk : ps.take (i + 1) = ps.take i ++ [(a, b)] := by rw [List.take_add_one, hq0]; rfl
      have hdw : DV (wl [fo] G) x (pairOf (a, b)) := by
        have w1 : wl [fo] H1 = H1 := funext fun b => by
          by_cases e : b = fo
          · rw [e, wl_in (List.mem_singleton.mpr rfl), fo0]
          · exact wl_out (by simpa using e)
        have z := wl_stay (ms := [fo]) sG
        rw [w1] at z
        exact hdx.stay z
      obtain ⟨rb, zs, rfl, hrb, hzs, _⟩ := dv_tup hdx
      cases hzs with
      | @cons va vs0 d0 ds0 hva t0 =>
      cases t0 with
      | @cons vb vs1 d1 ds1 hvb t1 =>
      cases t1
      cases dv_str hva
      cases dv_str hvb
      obtain ⟨t, i1, i2, hv, ht, n1, n2⟩ := (enG a b).1 (.inl (List.mem_of_getElem? hq0))
      have l1 := (List.getElem?_eq_some_iff.mp n1).1
      have l2 := (List.getElem?_eq_some_iff.mp n2).1
      rw [List.length_map] at l1 l2
      refine ⟨_, rfl, _, rfl, ed, _, rfl, .inr ⟨kvs, [Sum.inr a, Sum.inr b], rb, .inl hedG, rfl, sG.same _ _ hrb (fun _ z => nomatch z), hv.symm⟩, t, _, rfl, SqT.of (wl_some ht).2, rfl, _, _, rfl, _, _, rfl, rfl, ?_⟩
      have held' : ∀ e ∈ st, held e := fun e he => held_of (hs e he)
      refine ⟨_, rfl, _, rfl, _, rfl, _, rfl, _, _, hm, st, .tuple st, i1, i2, rfl, ha.stay sG, (hd2.stay s1).stay sG, .inl rfl, l1, l2, len, he, held', fun G2 r sr hr => ?_⟩
      have ei : lackD hm st (a, b) = shortD hm st i1 i2 := by
        show shortD _ _ (idxS _ a) (idxS _ b) = _
        rw [idxS_get ndn n1, idxS_get ndn n2]
      rw [← ei] at hr
      have is := shortD_is hm st i1 i2 held'
      rw [← ei] at is
      have hfo2 := sr.same _ _ hfo (fun _ z => nomatch z)
      have sw := wl_stay (ms := [fo]) sr
      rcases is with z | ⟨n, c, z⟩
      · rw [z] at hr
        have g : goes hm st (a, b) = true := by unfold goes; rw [z]
        cases dv_non hr
        refine ⟨rfl, _, rfl, ?_⟩
        have e2 : ((ps.take (i + 1)).filter (goes hm st)).map pairOf = ((ps.take i).filter (goes hm st)).map pairOf ++ [pairOf (a, b)] := by
          rw [tk, List.filter_append, List.map_append]
          congr 1
          rw [List.filter_cons, if_pos g]; rfl
        have lt9 : ys.length < sizeLine := Nat.lt_of_le_of_lt (show ys.length ≤ 1000 by omega) (by decide)
        refine ⟨_, rfl, .inl ⟨rfl, _, SqL.of hfo2⟩, _, rfl, fo, ys, _, rfl, rfl, hfo2, lt9, ?_⟩
        refine ⟨_, _, _, _, rfl, (sG.trans sr).upd fo0, by rw [upd_ne (fun z => by rw [z, hfo] at hedG; cases hedG)]; exact sr.same _ _ hedG (fun _ z => nomatch z), upd_same, ?_, ?_, by simp; omega⟩
        · rw [wl_upd_in (List.mem_singleton.mpr rfl)]; exact enG.stay sw
        · rw [wl_upd_in (List.mem_singleton.mpr rfl), e2]
          exact (dys.stay sw).snoc (hdw.stay sw)
      · rw [z] at hr
        have g : goes hm st (a, b) = false := by unfold goes; rw [z]
        obtain ⟨u, us, rfl, _⟩ := dv_tup hr
        refine ⟨rfl, _, rfl, ?_⟩
        have e2 : ((ps.take (i + 1)).filter (goes hm st)).map pairOf = ((ps.take i).filter (goes hm st)).map pairOf := by
          rw [tk, List.filter_append, List.map_append]
          rw [List.filter_cons, if_neg (by rw [g]; exact Bool.false_ne_true)]
          exact List.append_nil _
        refine ⟨_, _, _, _, rfl, sG.trans sr, sr.same _ _ hedG (fun _ z => nomatch z), hfo2, enG.stay sw, ?_, by omega⟩
        rw [e2]; exact dys.stay sw
end
end WR
namespace WR
open PySem PySem.Spec PyProof.Rows L2
/-! ### behind an exchange that may be done stands a standing -/
def nmOf (d : PyData) : Option Str := if isUnit d = true then none else some (entryName d)
theorem nm_list (l : List PyData) : (l.filter fun d => !isUnit d).map entryName = l.filterMap nmOf := by
  induction l with
  | nil => rfl
  | cons d r ih =>
    unfold nmOf at *
    by_cases u : isUnit d = true
    · rw [List.filter_cons, if_neg (by simp [u]), List.filterMap_cons, if_pos u]; exact ih
    · rw [List.filter_cons, if_pos (by simp [u]), List.map_cons, List.filterMap_cons, if_neg u]; simp only [ih]
theorem nm_moved (d : PyData) (r : Int) (h : held d) : nmOf (movedD d r) = nmOf d := by
  rcases h with rfl | ⟨n, c, rfl⟩ <;> rfl
theorem isEntry_moved {n : Str} {c r : Int} (h : isEntry (.tuple [.str n, .int c]) = true) (hr : r ≤ c) : isEntry (movedD (.tuple [.str n, .int c]) r) = true := by
  show isEntry (.tuple [.str n, .int (c - r)]) = true
  simp only [isEntry, Bool.and_eq_true] at h ⊢
  refine ⟨h.1, rfl, ?_⟩
  show decide _ = true
  exact decide_eq_true (by omega)
theorem moved_ok {d : PyData} {r : Int} (h : isUnit d = true ∨ isEntry d = true) (hr : ∀ n c, d = .tuple [.str n, .int c] → r ≤ c) : isUnit (movedD d r) = true ∨ isEntry (movedD d r) = true := by
  rcases held_of h with rfl | ⟨n, c, rfl⟩
  · exact .inl rfl
  · rcases h with u | e
    · cases u
    · exact .inr (isEntry_moved e (hr n c rfl))
theorem entry_low {n : Str} {c : Int} (h : isUnit (.tuple [.str n, .int c]) = true ∨ isEntry (.tuple [.str n, .int c]) = true) : 0 ≤ c := by
  rcases h with u | e
  · cases u
  · obtain ⟨x, i, e2, _, h0⟩ := entry_shape e
    cases e2; exact h0
theorem short_pays {n : Str} {c r : Int} (h : shortOf (.tuple [.str n, .int c]) r = .none) : absI r ≤ c := by
  rw [shortOf_eq] at h
  by_cases z : absI r ≤ c
  · exact z
  · rw [if_neg z] at h; cases h
theorem exchange_ok {hm st : List PyData} {i j : Nat} (hs : ∀ d ∈ st, isUnit d = true ∨ isEntry d = true) (hi : i < st.length) (hj : j < st.length) (no : shortD hm st i j = .none) :
    ∀ d ∈ exchangeD hm st i j, isUnit d = true ∨ isEntry d = true := by
  have gi : st.getD i .none = st[i] := by rw [List.getD_eq_getElem?_getD, List.getElem?_eq_getElem hi]; rfl
  have gj : st.getD j .none = st[j] := by rw [List.getD_eq_getElem?_getD, List.getElem?_eq_getElem hj]; rfl
  unfold shortD at no
  rw [gi, gj] at no
  have oi := hs _ (List.getElem_mem hi)
  have oj := hs _ (List.getElem_mem hj)
  intro d hd
  unfold exchangeD at hd
  rw [gi, gj] at hd
  generalize riseOf hm i j = r at no hd
  rcases List.mem_or_eq_of_mem_set hd with hd | rfl
  · rcases List.mem_or_eq_of_mem_set hd with hd | rfl
    · exact hs d hd
    · refine moved_ok oj fun n c e => ?_
      have c0 : 0 ≤ c := entry_low (e ▸ oj)
      by_cases p : 0 < r
      · omega
      · rw [if_neg p, e] at no
        have := short_pays no
        unfold absI at this
        split at this <;> omega
  · refine moved_ok oi fun n c e => ?_
    have c0 : 0 ≤ c := entry_low (e ▸ oi)
    by_cases p : 0 < r
    · rw [if_pos p, e] at no
      have := short_pays no
      unfold absI at this
      split at this <;> omega
    · omega
theorem exchange_names {hm st : List PyData} {i j : Nat} (hs : ∀ d ∈ st, held d) (hi : i < st.length) (hj : j < st.length) : ((exchangeD hm st i j).filterMap nmOf).Perm (st.filterMap nmOf) := by
  have gi : st.getD i .none = st[i] := by rw [List.getD_eq_getElem?_getD, List.getElem?_eq_getElem hi]; rfl
  have gj : st.getD j .none = st[j] := by rw [List.getD_eq_getElem?_getD, List.getElem?_eq_getElem hj]; rfl
  have e : (exchangeD hm st i j).map nmOf = ((st.map nmOf).set i (nmOf st[j])).set j (nmOf st[i]) := by
    unfold exchangeD
    rw [gi, gj, List.map_set, List.map_set, nm_moved _ _ (hs _ (List.getElem_mem hi)), nm_moved _ _ (hs _ (List.getElem_mem hj))]
  have f : ∀ l : List PyData, l.filterMap nmOf = (l.map nmOf).filterMap id := fun l => by rw [List.filterMap_map]; rfl
  rw [f, f, e]
  refine List.Perm.filterMap _ ?_
  have := List.set_set_perm (as := st.map nmOf) (i := i) (j := j) (by simpa using hi) (by simpa using hj)
  rwa [List.getElem_map, List.getElem_map] at this
theorem exchange_len {hm st : List PyData} {i j : Nat} : (exchangeD hm st i j).length = st.length := by
  unfold exchangeD; rw [List.length_set, List.length_set]
theorem exchange_stands {hm rs st : List PyData} {i j : Nat} (tw : townWrong (.tuple [.tuple hm, .tuple rs]) = .none) (sw : standingWrong (.tuple [.tuple hm, .tuple rs]) (.tuple st) = .none) (hi : i < hm.length) (hj : j < hm.length) (no : shortD hm st i j = .none) :
    standingWrong (.tuple [.tuple hm, .tuple rs]) (.tuple (exchangeD hm st i j)) = .none := by
  obtain ⟨hm', rs', st', e1, e2, len, _, hs, nd⟩ := standing_shape tw sw
  cases e1
  cases e2
  show (if (exchangeD hm st i j).length = hm.length then badHand 0 [] (exchangeD hm st i j) else _) = _
  rw [if_pos (by rw [exchange_len, len])]
  refine badHand_ok _ 0 [] (exchange_ok hs (by omega) (by omega) no) ?_
  rw [List.nil_append, nm_list]
  refine (exchange_names (fun d hd => held_of (hs d hd)) (by omega) (by omega)).nodup_iff.mpr ?_
  rw [← nm_list]; exact nd
/-! ### and the exchange back -/
theorem moved_back {d : PyData} {r : Int} (h : held d) : movedD (movedD d r) (-r) = d := by
  rcases h with rfl | ⟨n, c, rfl⟩
  · rfl
  · show PyData.tuple [.str n, .int (c - r - -r)] = _
    rw [show c - r - -r = c by omega]
theorem moved_back2 {d : PyData} {r : Int} (h : held d) : movedD (movedD d (-r)) r = d := by
  have := moved_back (r := -r) h
  rwa [Int.neg_neg] at this
theorem rise_back (hm : List PyData) (i j : Nat) : riseOf hm j i = -riseOf hm i j := by
  unfold riseOf; omega
theorem exchange_at {hm st : List PyData} {i j : Nat} (hi : i < st.length) (hj : j < st.length) (ne : i ≠ j) :
    (exchangeD hm st i j).getD i .none = movedD (st.getD j .none) (-riseOf hm i j) ∧ (exchangeD hm st i j).getD j .none = movedD (st.getD i .none) (riseOf hm i j) := by
  unfold exchangeD
  constructor
  · rw [List.getD_eq_getElem?_getD, List.getElem?_set_ne (Ne.symm ne), List.getElem?_set_self hi]; rfl
  · rw [List.getD_eq_getElem?_getD, List.getElem?_set_self (by rw [List.length_set]; exact hj)]; rfl
theorem exchange_back {hm st : List PyData} {i j : Nat} (hs : ∀ d ∈ st, held d) (hi : i < st.length) (hj : j < st.length) (ne : i ≠ j) : exchangeD hm (exchangeD hm st i j) j i = st := by
  obtain ⟨a1, a2⟩ := exchange_at (hm := hm) hi hj ne
  have gi : st.getD i .none = st[i] := by rw [List.getD_eq_getElem?_getD, List.getElem?_eq_getElem hi]; rfl
  have gj : st.getD j .none = st[j] := by rw [List.getD_eq_getElem?_getD, List.getElem?_eq_getElem hj]; rfl
  have ex : exchangeD hm (exchangeD hm st i j) j i = ((exchangeD hm st i j).set j (movedD ((exchangeD hm st i j).getD i .none) (-riseOf hm j i))).set i (movedD ((exchangeD hm st i j).getD j .none) (riseOf hm j i)) := rfl
  rw [ex]
  rw [a1, a2, rise_back hm i j, Int.neg_neg, gi, gj, moved_back (hs _ (List.getElem_mem hi)), moved_back2 (hs _ (List.getElem_mem hj))]
  refine List.ext_getElem? fun k => ?_
  unfold exchangeD
  by_cases ki : k = i
  · subst ki
    rw [List.getElem?_set_self (by simp; exact hi), List.getElem?_eq_getElem hi]
  · rw [List.getElem?_set_ne (Ne.symm ki)]
    by_cases kj : k = j
    · subst kj
      rw [List.getElem?_set_self (by simp; exact hj), List.getElem?_eq_getElem hj]
    · rw [List.getElem?_set_ne (Ne.symm kj), List.getElem?_set_ne (Ne.symm kj), List.getElem?_set_ne (Ne.symm ki)]
/-- back it may always go -/
theorem short_back {hm st : List PyData} {i j : Nat} (hs : ∀ d ∈ st, isUnit d = true ∨ isEntry d = true) (hi : i < st.length) (hj : j < st.length) (ne : i ≠ j) : shortD hm (exchangeD hm st i j) j i = .none := by
  obtain ⟨a1, a2⟩ := exchange_at (hm := hm) hi hj ne
  have gi : st.getD i .none = st[i] := by rw [List.getD_eq_getElem?_getD, List.getElem?_eq_getElem hi]; rfl
  have gj : st.getD j .none = st[j] := by rw [List.getD_eq_getElem?_getD, List.getElem?_eq_getElem hj]; rfl
  have oi := hs _ (List.getElem_mem hi)
  have oj := hs _ (List.getElem_mem hj)
  unfold shortD
  rw [a1, a2, rise_back hm i j, gi, gj]
  generalize riseOf hm i j = r
  by_cases p : 0 < -r
  · rw [if_pos p]
    rcases held_of oi with e | ⟨n, c, e⟩
    · rw [e]; rfl
    · have c0 : 0 ≤ c := entry_low (e ▸ oi)
      rw [e]
      show shortOf (.tuple [.str n, .int (c - r)]) (-r) = _
      rw [shortOf_eq, if_pos (by unfold absI; split <;> omega)]
  · rw [if_neg p]
    rcases held_of oj with e | ⟨n, c, e⟩
    · rw [e]; rfl
    · have c0 : 0 ≤ c := entry_low (e ▸ oj)
      rw [e]
      show shortOf (.tuple [.str n, .int (c - -r)]) (-r) = _
      rw [shortOf_eq, if_pos (by unfold absI; split <;> omega)]
end WR
namespace WR
open PySem PySem.Spec PyProof.Rows L2
/-! ### a row of exchanges, over data -/
def pairS : PyData → Option (Str × Str)
  | .tuple [.str a, .str b] => some (a, b)
  | _ => none
theorem pairS_some {d : PyData} {p : Str × Str} (h : pairS d = some p) : d = pairOf p := by
  unfold pairS at h
  split at h
  · cases h; rfl
  · cases h
theorem pairS_text (d : PyData) : isTextPair d = (pairS d).isSome := by
  cases z : isTextPair d with
  | true =>
    obtain ⟨a, b, rfl⟩ := textPair_shape z
    rfl
  | false =>
    cases y : pairS d with
    | none => rfl
    | some p =>
      have e := pairS_some y
      subst e
      exact absurd z (by show ¬ (true = false); decide)
/-- what becomes of one exchange -/
inductive Step where
  | go (i j : Nat)
  | road
  | lack (n : Str) (c : Int)
def joined (ps : List (Str × Str)) (p : Str × Str) : Prop := p ∈ ps ∨ (p.2, p.1) ∈ ps
instance (ps : List (Str × Str)) (p : Str × Str) : Decidable (joined ps p) := by unfold joined; infer_instance
def stepD (hm : List PyData) (ps : List (Str × Str)) (st : List PyData) (d : PyData) : Step := match pairS d with
  | none => .road
  | some p => if joined ps p then match lackD hm st p with
    | .tuple [.str n, .int c] => .lack n c
    | _ => .go (idxS (hm.map entryName) p.1) (idxS (hm.map entryName) p.2) else .road
def goneD (hm : List PyData) (ps : List (Str × Str)) : List PyData → List PyData → Option (List PyData)
  | st, [] => some st
  | st, d :: r => match stepD hm ps st d with
    | .go i j => goneD hm ps (exchangeD hm st i j) r
    | _ => none
theorem gone_append (hm : List PyData) (ps : List (Str × Str)) : ∀ (r s : List PyData) (st : List PyData), goneD hm ps st (r ++ s) = (goneD hm ps st r).bind fun t => goneD hm ps t s
  | [], s, st => rfl
  | d :: r, s, st => by
    show (match stepD hm ps st d with | .go i j => goneD hm ps (exchangeD hm st i j) (r ++ s) | _ => none) = (match stepD hm ps st d with | .go i j => goneD hm ps (exchangeD hm st i j) r | _ => none).bind _
    cases stepD hm ps st d with
    | go i j => exact gone_append hm ps r s _
    | road => rfl
    | lack n c => rfl
theorem gone_one {hm : List PyData} {ps : List (Str × Str)} {st : List PyData} {d : PyData} {i j : Nat} (h : stepD hm ps st d = .go i j) : goneD hm ps st [d] = some (exchangeD hm st i j) := by
  show (match stepD hm ps st d with | .go i j => goneD hm ps (exchangeD hm st i j) [] | _ => none) = _
  rw [h]; rfl
theorem gone_take {hm : List PyData} {ps : List (Str × Str)} {st st' : List PyData} {row : List PyData} {k : Nat} {d : PyData} {i j : Nat} (hd : row[k]? = some d) (h : goneD hm ps st (row.take k) = some st') (s : stepD hm ps st' d = .go i j) :
    goneD hm ps st (row.take (k + 1)) = some (exchangeD hm st' i j) := by
  rw [List.take_add_one, hd, gone_append, h]
  exact gone_one s
/-- a step that goes -/
theorem step_go {hm : List PyData} {ps : List (Str × Str)} {st : List PyData} {d : PyData} {i j : Nat} (hs : ∀ e ∈ st, held e) (hps : ∀ p ∈ ps, p.1 ∈ hm.map entryName ∧ p.2 ∈ hm.map entryName) (h : stepD hm ps st d = .go i j) :
    ∃ p, d = pairOf p ∧ joined ps p ∧ i < hm.length ∧ j < hm.length ∧ (hm.map entryName)[i]? = some p.1 ∧ (hm.map entryName)[j]? = some p.2 ∧ shortD hm st i j = .none := by
  unfold stepD at h
  split at h
  · cases h
  · rename_i p hp
    split at h
    · rename_i jn
      have m : p.1 ∈ hm.map entryName ∧ p.2 ∈ hm.map entryName := by
        rcases jn with q | q
        · exact hps _ q
        · exact ⟨(hps _ q).2, (hps _ q).1⟩
      obtain ⟨a1, a2⟩ := idxS_lt m.1
      obtain ⟨b1, b2⟩ := idxS_lt m.2
      have is : lackD hm st p = .none ∨ ∃ n c, lackD hm st p = .tuple [.str n, .int c] := shortD_is hm st _ _ hs
      rcases is with z | ⟨n, c, z⟩
      · rw [z] at h
        cases h
        rw [List.length_map] at a1 b1
        exact ⟨p, pairS_some hp, jn, a1, b1, a2, b2, z⟩
      · rw [z] at h; cases h
    · cases h
/-- behind a row stands a standing -/
theorem gone_stands {hm rs : List PyData} {ps : List (Str × Str)} (tw : townWrong (.tuple [.tuple hm, .tuple rs]) = .none) (hps : ∀ p ∈ ps, p.1 ∈ hm.map entryName ∧ p.2 ∈ hm.map entryName) : ∀ (row st st' : List PyData),
    standingWrong (.tuple [.tuple hm, .tuple rs]) (.tuple st) = .none → goneD hm ps st row = some st' → standingWrong (.tuple [.tuple hm, .tuple rs]) (.tuple st') = .none
  | [], st, st', sw, h => by cases h; exact sw
  | d :: r, st, st', sw, h => by
    obtain ⟨hm', rs', s', e1, e2, len, he, hs, nd⟩ := standing_shape tw sw
    cases e1
    cases e2
    change (match stepD hm ps st d with | .go i j => goneD hm ps (exchangeD hm st i j) r | _ => none) = some st' at h
    cases z : stepD hm ps st d with
    | go i j =>
      rw [z] at h
      obtain ⟨p, _, _, li, lj, _, _, no⟩ := step_go (fun e he => held_of (hs e he)) hps z
      exact gone_stands tw hps r _ _ (exchange_stands tw sw li lj no) h
    | road => rw [z] at h; cases h
    | lack n c => rw [z] at h; cases h
end WR
namespace WR
open PySem PySem.Spec PyProof.Rows L2
/-! ## X(): an own exception class that has no __init__ of its own, made of nothing -/
theorem pmk_own0 {X : Cx} {C : Addr} {bmB : List Value} {B newId initId : String} {x : Str} {p pos : Pos} (F : ExcBaseFacts B newId initId bmB) (q : PySem.W.excIn X.K C bmB newId = true) (gC : X.mg x = some (.ref C))
    (kC : PySem.W.keepIn X.K (.ref C) = true) (r : Raises X (.ref C)) (hg : Gl X x := by rfl) (hdb : (x == ("__debug__" : Str)) = false := by decide) :
    PMk X (.Call (.Name x p) [] [] pos) (fun _ H Q => Q (.ref C) none H) := by
  intro pins s σ H Q I h
  refine wpAny_Call_Name_kw (ld_glob I hg gC ?_ hdb)
  refine PySem.W.callWith_K0 I.kIn kC ?_
  show wpAny _ _ (call (.ref C) []) _ _ _
  obtain ⟨bm, N, nm, qn, bs, hdct, sn, sub, ab, col, dd, k0, k1, k2, k3, k5, mN, hC, hN, hni, T⟩ := exc_obj I.kIn q
  refine wpAny_call_exc_subT F T hC hN hni (fun h' e hm => ?_) (Nat.zero_le _)
  exact mk_of I hm r h (I.hok.gone hm.new)
/-- what is told of such a class x -/
structure Exc0 (K : PySem.W.Frag) (mg : Str → Option Value) (x : Str) (C : Addr) : Prop where
  nm : mg x = some (.ref C)
  ex : ∃ (bmB : List Value) (B newId initId : String), ExcBaseFacts B newId initId bmB ∧ PySem.W.excIn K C bmB newId = true
  kp : PySem.W.keepIn K (.ref C) = true
  sub : PySem.W.subIn K (.ref C) (.type "BaseException") = some true
  ty : PySem.W.typeIn K (.ref C) = some (.type "type")
  isi : ExcI K C
theorem pmk_0 {X : Cx} {x : Str} {C : Addr} {p pos : Pos} (F : Exc0 X.K X.mg x C) (hg : Gl X x := by rfl) (hdb : (x == ("__debug__" : Str)) = false := by decide) : PMk X (.Call (.Name x p) [] [] pos) (fun _ H Q => Q (.ref C) none H) := by
  obtain ⟨bmB, B, newId, initId, F1, q⟩ := F.ex
  exact pmk_own0 F1 q F.nm F.kp (raises_own F.sub F.ty) hg hdb
end WR
namespace WR
open PySem PySem.Spec PyProof.Rows L2
/-! ## Own exceptions of two and of three fields -/
theorem two_put {H : Hp} {dx a : Addr} {o1 o2 o3 : HO} (hne : dx ≠ a) : upd (upd (upd H dx o1) a o3) dx o2 = upd (upd H dx o2) a o3 := by
  funext b
  by_cases hb : b = dx
  · rw [hb, upd_same, upd_ne hne, upd_same]
  · rw [upd_ne hb]
    by_cases ha : b = a
    · rw [ha, upd_same, upd_same]
    · rw [upd_ne ha, upd_ne hb, upd_ne ha, upd_ne hb]
/-- __init__ of a class whose fields come out as fs of its arguments -/
def spInitN (n : Nat) (fs : List V → List (Str × V)) (C : Addr) : Sp := fun vs H Q _ => ∃ a us, vs = V.ref a :: us ∧ us.length = n ∧ H a = some (exo a C none) ∧ ∀ dx, H dx = none → dx ≠ a → Q .non (upd (upd H dx (exd dx (fs us))) a (exo a C (some dx)))
/-- the fields f, g of two arguments; the later one ahead -/
def fs2 (f g : Str) (us : List V) : List (Str × V) := [(g, us.getD 1 .non), (f, us.getD 0 .non)]
def fs3 (f g h : Str) (us : List V) : List (Str × V) := [(h, us.getD 2 .non), (g, us.getD 1 .non), (f, us.getD 0 .non)]
structure ExcN (P : Program) (w : World) (K : PySem.W.Frag) (mg : Str → Option Value) (base : Heap) (x : Str) (ps : List Str) (n : Nat) (fs : List V → List (Str × V)) (C : Addr) : Prop where
  nm : mg x = some (.ref C)
  oex : OexC K C
  isi : ExcI K C
  nof : ∀ f, f ∈ ps → PySem.W.findIn K (.ref C) f = some none
  ini : ∃ (fI : Addr) (fd : FuncData), PySem.W.findIn K (.ref C) "__init__" = some (some (.ref fI)) ∧ PySem.W.typeIn K (.ref fI) = some (.type "function") ∧
    FnOk P w K mg base (L2.CX P w) 1 fI fd ("self" :: ps) (spInitN n fs C) ∧ Binds K fd ("self" :: ps) []
theorem pmk_2 {X : Cx} {x : Str} {ps : List Str} {n : Nat} {fs : List V → List (Str × V)} {C : Addr} {e1 e2 : Expr} {t1 t2 : TE} {p pos : Pos} (F : ExcN X.prog X.w X.K X.mg X.base x ps n fs C) (hr : Room 2 X.A) (h1 : PE X e1 t1) (h2 : PE X e2 t2) (hg : Gl X x := by rfl)
    (hn : ps.length = 2 := by rfl)
    (hdb : (x == ("__debug__" : Str)) = false := by decide) (he1 : starEach (e1 :: e2 :: []) X.env = (false, eval e1 X.env) :: starEach (e2 :: []) X.env := by rfl) (he2 : starEach (e2 :: []) X.env = (false, eval e2 X.env) :: starEach [] X.env := by rfl)
    (hpl : (backTo pos (starEach (e2 :: []) X.env)).any (·.1) = false := by rfl) :
    PMk X (.Call (.Name x p) [e1, e2] [] pos) (tMkO C (spInitN n fs C) [] (tCons t1 (tCons t2 tNil))) := by
  obtain ⟨fI, fd, iC, tI, FI, hb⟩ := F.ini
  exact pmk_oex (X := X) F.oex iC tI FI hr hb .nil passL hg F.nm (pa_cons h1 (pa_cons h2 pa_nil (hs := he2)) (hs := he1)) hdb he1 hpl
theorem pmk_3 {X : Cx} {x : Str} {ps : List Str} {n : Nat} {fs : List V → List (Str × V)} {C : Addr} {e1 e2 e3 : Expr} {t1 t2 t3 : TE} {p pos : Pos} (F : ExcN X.prog X.w X.K X.mg X.base x ps n fs C) (hr : Room 2 X.A) (h1 : PE X e1 t1) (h2 : PE X e2 t2) (h3 : PE X e3 t3) (hg : Gl X x := by rfl)
    (hn : ps.length = 3 := by rfl)
    (hdb : (x == ("__debug__" : Str)) = false := by decide) (he1 : starEach (e1 :: e2 :: e3 :: []) X.env = (false, eval e1 X.env) :: starEach (e2 :: e3 :: []) X.env := by rfl) (he2 : starEach (e2 :: e3 :: []) X.env = (false, eval e2 X.env) :: starEach (e3 :: []) X.env := by rfl)
    (he3 : starEach (e3 :: []) X.env = (false, eval e3 X.env) :: starEach [] X.env := by rfl)
    (hpl : (backTo pos (starEach (e2 :: e3 :: []) X.env)).any (·.1) = false := by rfl) :
    PMk X (.Call (.Name x p) [e1, e2, e3] [] pos) (tMkO C (spInitN n fs C) [] (tCons t1 (tCons t2 (tCons t3 tNil)))) := by
  obtain ⟨fI, fd, iC, tI, FI, hb⟩ := F.ini
  exact pmk_oex (X := X) F.oex iC tI FI hr hb .nil passL hg F.nm (pa_cons h1 (pa_cons h2 (pa_cons h3 pa_nil (hs := he3)) (hs := he2)) (hs := he1)) hdb he1 hpl
/-- what the making asks behind its arguments -/
theorem madeN {n : Nat} {fs : List V → List (Str × V)} {C : Addr} {vs : List V} {H1 : Hp} {Q : XK} (hn : vs.length = n) (hl : n ≤ 1000) (h : ∀ d, H1 d = none → Q (.ref C) (some d) (upd H1 d (.xd (fs vs)))) :
    vs.length ≤ 1000 ∧ ∀ a, H1 a = none → spInitN n fs C (V.ref a :: (vs ++ [])) (upd H1 a (exo a C none))
      (fun u H2 => u = .non ∧ ∃ (d : Addr) (fs : List (Str × V)), H2 a = some (exo a C (some d)) ∧ H2 d = some (exd d fs) ∧ H1 d = none ∧ Q (.ref C) (some d) (upd (del H2 a) d (.xd fs))) (fun _ _ _ => False) := by
  refine ⟨by omega, fun a na => ⟨a, vs, by rw [List.append_nil], hn, upd_same, fun dx ndx hne => ⟨rfl, dx, fs vs, upd_same, ?_, ?_, ?_⟩⟩⟩
  · rw [upd_ne hne]; exact upd_same
  · rw [upd_ne hne] at ndx; exact ndx
  · rw [upd_ne hne] at ndx
    have e : upd (del (upd (upd (upd H1 a (exo a C none)) dx (exd dx (fs vs))) a (exo a C (some dx))) a) dx (.xd (fs vs)) = upd H1 dx (.xd (fs vs)) := by
      funext b
      by_cases hb : b = dx
      · rw [hb, upd_same, upd_same]
      · rw [upd_ne hb, upd_ne hb]
        by_cases ha : b = a
        · rw [ha, del_same, na]
        · rw [del_ne ha, upd_ne ha, upd_ne hb, upd_ne ha]
    rw [e]
    exact h dx ndx
/-- __init__(self, f, g): self.f = f; self.g = g -/
theorem ok_init2 {P : Program} {w : World} {K : PySem.W.Frag} {mg : Str → Option Value} {base : Heap} {q f g : Str} {C fI : Addr} {fd : FuncData} {prm : Arguments} {sc : Scope} {dvs : List V} {p1 p2 p3 p4 p5 p6 p7 p8 : Pos}
    (F : FunD K "__init__" q prm [.Assign [.Attribute (.Name "self" p1) f p2] (.Name f p3) p4, .Assign [.Attribute (.Name "self" p5) g p6] (.Name g p7) p8] sc dvs [] fI fd) (S : FnScope ["self", f, g] ["self", f, g] sc) (O : OexC K C)
    (nf : PySem.W.findIn K (.ref C) f = some none) (ng : PySem.W.findIn K (.ref C) g = some none)
    (v1 : sc.names.lookup ("self" : Str) = some NameKind.local) (v2 : sc.names.lookup f = some NameKind.local) (v3 : sc.names.lookup g = some NameKind.local)
    (d2 : (f == ("__debug__" : Str)) = false) (d3 : (f == ("__classdict__" : Str)) = false) (d4 : (g == ("__debug__" : Str)) = false) (d5 : (g == ("__classdict__" : Str)) = false) :
    FnOk P w K mg base (L2.CX P w) 1 fI fd ["self", f, g] (spInitN 2 (fs2 f g) C) := by
  refine F.ok S (fun vs H Q E h => ?_) (fun cdv A outer s H vs Q E hr h => ⟨_, PSs.nox (pss_cons (ps_ost (pe_var (i := 0) rfl (Or.inl v1)) (pe_var (i := 1) rfl (Or.inl v2) d2 d3)) (pss_one (ps_ost (pe_var (i := 0) rfl (Or.inl v1)) (pe_var (i := 2) rfl (Or.inl v3) d4 d5)))), ?_⟩)
  · obtain ⟨a, us, rfl, hl, _⟩ := h; simp [hl]
  · obtain ⟨a, us, rfl, hl, ha, k⟩ := h
    match us, hl with
    | [u, v], _ =>
    refine ⟨u, rfl, .ref a, rfl, a, C, rfl, O, nf, .inl ⟨ha, fun dx n1 n2 => ?_⟩⟩
    refine ⟨v, rfl, .ref a, rfl, a, C, rfl, O, ng, .inr ⟨dx, [(f, u)], upd_same, by rw [upd_ne n2]; exact upd_same, by show 1 ≤ 900; decide, ?_⟩⟩
    rw [two_put n2]
    exact k dx n1 n2
/-- __init__(self, f, g, h) -/
theorem ok_init3 {P : Program} {w : World} {K : PySem.W.Frag} {mg : Str → Option Value} {base : Heap} {q f g h : Str} {C fI : Addr} {fd : FuncData} {prm : Arguments} {sc : Scope} {dvs : List V} {p1 p2 p3 p4 p5 p6 p7 p8 p9 p10 p11 p12 : Pos}
    (F : FunD K "__init__" q prm [.Assign [.Attribute (.Name "self" p1) f p2] (.Name f p3) p4, .Assign [.Attribute (.Name "self" p5) g p6] (.Name g p7) p8, .Assign [.Attribute (.Name "self" p9) h p10] (.Name h p11) p12] sc dvs [] fI fd)
    (S : FnScope ["self", f, g, h] ["self", f, g, h] sc) (O : OexC K C)
    (nf : PySem.W.findIn K (.ref C) f = some none) (ng : PySem.W.findIn K (.ref C) g = some none) (nh : PySem.W.findIn K (.ref C) h = some none)
    (v1 : sc.names.lookup ("self" : Str) = some NameKind.local) (v2 : sc.names.lookup f = some NameKind.local) (v3 : sc.names.lookup g = some NameKind.local) (v4 : sc.names.lookup h = some NameKind.local)
    (d2 : (f == ("__debug__" : Str)) = false) (d3 : (f == ("__classdict__" : Str)) = false) (d4 : (g == ("__debug__" : Str)) = false) (d5 : (g == ("__classdict__" : Str)) = false)
    (d6 : (h == ("__debug__" : Str)) = false) (d7 : (h == ("__classdict__" : Str)) = false) :
    FnOk P w K mg base (L2.CX P w) 1 fI fd ["self", f, g, h] (spInitN 3 (fs3 f g h) C) := by
  refine F.ok S (fun vs H Q E h => ?_) (fun cdv A outer s H vs Q E hr h => ⟨_, PSs.nox (pss_cons (ps_ost (pe_var (i := 0) rfl (Or.inl v1)) (pe_var (i := 1) rfl (Or.inl v2) d2 d3)) (pss_cons (ps_ost (pe_var (i := 0) rfl (Or.inl v1)) (pe_var (i := 2) rfl (Or.inl v3) d4 d5)) (pss_one (ps_ost (pe_var (i := 0) rfl (Or.inl v1)) (pe_var (i := 3) rfl (Or.inl v4) d6 d7))))), ?_⟩)
  · obtain ⟨a, us, rfl, hl, _⟩ := h; simp [hl]
  · obtain ⟨a, us, rfl, hl, ha, k⟩ := h
    match us, hl with
    | [u, v, x], _ =>
    refine ⟨u, rfl, .ref a, rfl, a, C, rfl, O, nf, .inl ⟨ha, fun dx n1 n2 => ?_⟩⟩
    refine ⟨v, rfl, .ref a, rfl, a, C, rfl, O, ng, .inr ⟨dx, [(f, u)], upd_same, by rw [upd_ne n2]; exact upd_same, by show 1 ≤ 900; decide, ?_⟩⟩
    rw [two_put n2]
    refine ⟨x, rfl, .ref a, rfl, a, C, rfl, O, nh, .inr ⟨dx, [(g, v), (f, u)], upd_same, by rw [upd_ne n2]; exact upd_same, by show 2 ≤ 900; decide, ?_⟩⟩
    rw [two_put n2]
    exact k dx n1 n2
end WR
namespace WR
open PySem PySem.Spec PyProof.Rows L2
/-! ## isinstance(x, list) of data -/
theorem isT_kitL : ∀ t ∈ ["NoneType", "bool", "int", "str", "list", "tuple", "dict"], kitB t "list" = some (isT "list" t) := by decide +kernel
def rIsL : List V → Hp → VK → Prop := fun xs H Q => ∃ (v : V) (d : PyData), xs = [v, .ty "list"] ∧ DV H v d ∧ Q (.bl (isD "list" d)) H
theorem call_isL {X : Cx} : CallR X (.builtin "isinstance") rIsL := by
  intro pins s σ H xs us Q I r h
  obtain ⟨v, d, rfl, hd, q⟩ := h
  exact call_isi pins s σ H _ us Q I r ⟨v, .ty "list", _, _, isD "list" d, rfl, .ty "list", hd.ty, kit_ty (isT_kitL (tyD d) (by cases d <;> simp [tyD])), q⟩
end WR
namespace WR
open PySem PySem.Spec PyProof.Rows L2
section
variable {P : Program} {w : World} {K : PySem.W.Frag} {mg : Str → Option Value} {base : Heap} {f : Addr} {fd : FuncData} {T : Addr}
/-- an exception C with the fields fs -/
def RaisesR (C : Addr) (fs : List (Str × V)) (H : Hp) (E : XK) : Prop := ∀ H' dd, StayT H H' → H' dd = some (.xd fs) → E (.ref C) (some dd) H'
/-- a heap that holds a list at hh: what it holds of tuples stays where hh is left out -/
theorem EndsAre.wl {H : Hp} {kvs : List (List Key × V)} {names : List Str} {ps : List (Str × Str)} {hh : Addr} {zs : List V} (h : EndsAre H kvs names ps) (e : H hh = some (.lst zs)) : EndsAre (wl [hh] H) kvs names ps := fun a b => by
  refine ⟨fun j => ?_, (h a b).2⟩
  obtain ⟨t, i1, i2, hv, ht, n1, n2⟩ := (h a b).1 j
  have ne : t ≠ hh := fun z => by rw [z, e] at ht; cases ht
  exact ⟨t, i1, i2, hv, by rw [wl_out (by simpa using ne)]; exact ht, n1, n2⟩
theorem wl_none {hh : Addr} {G : Hp} (n : G hh = none) : wl [hh] G = G := funext fun b => by
  by_cases e : b = hh
  · rw [e, wl_in (List.mem_singleton.mpr rfl), n]
  · exact wl_out (by simpa using e)
/-! ### stuck -/
abbrev s_stuck : Stmt := topS 30
abbrev N_stuck : List Str := ["town", "here", "row", "homes", "ends", "at", "pair", "one", "other"]
abbrev P_stuck : List Str := ["town", "here", "row"]
theorem sc_stuck : FnScope N_stuck P_stuck (defScope s_stuck) := ⟨rfl, rfl, rfl, by decide +kernel, rfl, by decide +kernel, by decide +kernel⟩

def sp_stuck : Sp := fun vs H Q _ => ∃ (v v3 : V) (hh : Addr) (zs : List V) (hm : List PyData) (ps : List (Str × Str)) (st l : List PyData), vs = [v, .ref hh, v3] ∧ H hh = some (.lst zs) ∧ DV (wl [hh] H) v (.tuple [.tuple hm, .tuple (ps.map pairOf)]) ∧ DVs (wl [hh] H) zs st ∧ DV (wl [hh] H) v3 (.list l) ∧
  townWrong (.tuple [.tuple hm, .tuple (ps.map pairOf)]) = .none ∧ standingWrong (.tuple [.tuple hm, .tuple (ps.map pairOf)]) (.tuple st) = .none ∧
  (∀ st', goneD hm ps st l = some st' → ∀ H' zs', StayT (wl [hh] H) (wl [hh] H') → H' hh = some (.lst zs') → DVs (wl [hh] H') zs' st' → Q .non H') ∧
  ∀ (k : Nat) (e : PyData) (st' : List PyData), l[k]? = some e → goneD hm ps st (l.take k) = some st' → (∀ i j, stepD hm ps st' e ≠ .go i j) → ∀ H' zs', StayT (wl [hh] H) (wl [hh] H') → H' hh = some (.lst zs') → DVs (wl [hh] H') zs' st' → Q (.int k) H'
theorem ok_stuck (F : FnP K "stuck" s_stuck f fd) (fr : Free mg) (c_is_text_pair : Cal P w K mg base "is_text_pair" 2 P_is_text_pair sp_is_text_pair)
    (c_road_ends : Cal P w K mg base "road_ends" 1 P_road_ends sp_road_ends) (c_shortage : Cal P w K mg base "shortage" 1 P_shortage sp_shortage) (c_exchange : Cal P w K mg base "exchange" 2 P_exchange sp_exchange) :
    FnOk P w K mg base (L2.CX P w) 3 f fd P_stuck sp_stuck := by
  refine F.ok sc_stuck (fun vs H Q E h => ?_) (fun cdv A outer s H vs Q E hr h => ⟨_, PSs.nox (pss_cons (ps_set (i := 3) sc_stuck.nd rfl (Or.inl rfl) (pe_ix ix_K (pv 0) pe_int (fun _ _ => rfl)))
    (pss_cons (ps_set (i := 4) sc_stuck.nd rfl (Or.inl rfl) (pe_F c_road_ends (hr.mono (by omega)) (pa_cons (pv 0) pa_nil)))
    (pss_cons (ps_for PassesOwn.never rfl (pi_enum rfl (fr "enumerate" (by decide)) (pa_cons (pv 2) pa_nil)) (pg_tup rfl (pgs_cons (pg_name (i := 5) sc_stuck.nd rfl (Or.inl rfl)) (pgs_cons (pg_name (i := 6) sc_stuck.nd rfl (Or.inl rfl)) pgs_nil))) (pss_cons (ps_if (PW.pt (pw_or (pt_not (pt_val (pe_F c_is_text_pair (hr.mono (by omega)) (pa_cons (pv 6) pa_nil)))) (pw_or1 (pt_cmp (pc_dnotin (hu_of hr) (pv 6) (pv 4)))))) (pss_one (ps_ret (pv 5))) pss_nil)
    (pss_cons (ps_asg (pe_dget (hu_of hr) (pv 4) (pv 6) (fun _ _ => rfl)) (pg_tup rfl (pgs_cons (pg_name (i := 7) sc_stuck.nd rfl (Or.inl rfl)) (pgs_cons (pg_name (i := 8) sc_stuck.nd rfl (Or.inl rfl)) pgs_nil))))
    (pss_cons (ps_if (pt_cmpR op_notN (pe_F c_shortage (hr.mono (by omega)) (pa_cons (pv 3) (pa_cons (pv 1) (pa_cons (pv 7) (pa_cons (pv 8) pa_nil))))) pe_non (nomark _)) (pss_one (ps_ret (pv 5))) pss_nil)
    (pss_one (ps_expr (pe_F c_exchange (hr.mono (by omega)) (pa_cons (pv 3) (pa_cons (pv 1) (pa_cons (pv 7) (pa_cons (pv 8) pa_nil)))))))))))
    (pss_one (ps_ret pe_non))))), ?_⟩)
  · obtain ⟨v, v3, hh, zs, hm, ps, st, l, rfl, _⟩ := h; rfl
  · obtain ⟨v, v3, hh, ys, hm, ps, st, l, rfl, hhh, hd, hys, hd3, tw, sw, qf, qx⟩ := h
    obtain ⟨hm', rs', st0, e1, e2, len, he, hs, nd⟩ := standing_shape tw sw
    cases e1
    cases e2
    obtain ⟨d0, l0, rs0, e0, bh, br⟩ := town_shape tw
    cases e0
    obtain ⟨ps', e3, hps⟩ := badRoad_is _ _ _ _ br
    have inj : ∀ x y : Str × Str, pairOf x = pairOf y → x = y := fun x y h => by cases x; cases y; cases h; rfl
    cases (List.map_inj_right inj).mp e3
    have ndn := badHome_nodup _ _ _ bh List.nodup_nil
    rw [List.nil_append] at ndn
    generalize d0 :: l0 = hm at *
    obtain ⟨p, zs, rfl, hp, hzs, _⟩ := dv_tup hd
    cases hzs with
    | @cons vh vs0 dd0 ds0 hvh t0 =>
    obtain ⟨_, _, _, _, _, hlm⟩ := dv_tup hvh
    have ip : (wl [hh] H) p = some (.tup (vh :: vs0)) := hp
    refine ⟨_, rfl, .inr (.inl ⟨p, _, _, vh, rfl, rfl, SqT.of (wl_some ip).2, atI_nat (j := 0) rfl, ?_⟩)⟩
    refine ⟨_, rfl, _, _, ps, rfl, hd.out, he, ndn, hps, fun H2 ed kvs s2 ned hed en => ?_⟩
    have hh2 : H2 hh = some (.lst ys) := s2.same _ _ hhh fun _ z => nomatch z
    have sw2 := wl_stay (ms := [hh]) s2
    have en3 := en.wl hh2
    have hys3 := hys.stay sw2
    obtain ⟨ra, xs, er, hra0, hxs0⟩ : ∃ ra xs, v3 = .ref ra ∧ (wl [hh] H) ra = some (.lst xs) ∧ DVs (wl [hh] H) xs l := by
      cases hd3 with
      | lst e d _ => exact ⟨_, _, rfl, e, d⟩
    subst er
    have lx := hxs0.length
    refine ⟨_, rfl, ra, xs, rfl, SqL.of (wl_some (sw2.same _ _ hra0 fun _ z => nomatch z)).2, ?_⟩
    refine for_it (walk_enum (xs := xs)) (fun i σ G => ∃ (o5 o6 o7 o8 : Option V) (zs : List V) (st' : List PyData), σ = [some (.ref p), some (.ref hh), some (.ref ra), some vh, some (.ref ed), o5, o6, o7, o8] ∧ StayT (wl [hh] H) (wl [hh] G) ∧ G ed = some (.dT kvs) ∧ G hh = some (.lst zs) ∧ EndsAre (wl [hh] G) kvs (hm.map entryName) ps ∧ DVs (wl [hh] G) zs st' ∧ goneD hm ps st (l.take i) = some st') ?e0 ?eG ?es ?ed
    case e0 => exact ⟨none, none, none, none, ys, st, rfl, sw2, hed, hh2, en3, hys3, rfl⟩
    case eG =>
      rintro i σ G hi ⟨o5, o6, o7, o8, zs, st', rfl, sG, _⟩
      exact SqL.of (wl_some (sG.same _ _ hra0 fun _ z => nomatch z)).2
    case ed =>
      rintro σ G ⟨o5, o6, o7, o8, zs, st', rfl, sG, hedG, hhG, enG, dzs, gd⟩
      rw [lx, List.take_length] at gd
      exact qf _ gd _ _ sG hhG dzs
    case es =>
      rintro i y σ G G1 hi ⟨o5, o6, o7, o8, zs, st', rfl, sG, hedG, hhG, enG, dzs, gd⟩ ⟨tp, y0, x, rfl, ntp, rfl, e0, hx⟩
      cases e0
      obtain ⟨e, hle, hxe0⟩ := hxs0.get hx
      obtain ⟨_, _, st1, e1, e2, len', _, hs', _⟩ := standing_shape tw (gone_stands tw hps _ _ _ sw gd)
      cases e1
      cases e2
      have held' : ∀ d ∈ st', held d := fun d hd => held_of (hs' d hd)
      refine ⟨tp, _, rfl, SqT.of upd_same, rfl, _, _, rfl, _, _, rfl, rfl, ?_⟩
      have tp_hh : tp ≠ hh := fun z => by rw [z, hhG] at ntp; cases ntp
      have sG1 := sG.trans (wl_alloc (ms := [hh]) (o := .tup [.int (i : Nat), x]) ntp)
      have hed1 : upd G tp (.tup [.int (i : Nat), x]) ed = some (.dT kvs) := by rw [upd_ne (ne_of_none hedG ntp)]; exact hedG
      have hh1 : upd G tp (.tup [.int (i : Nat), x]) hh = some (.lst zs) := by rw [upd_ne (ne_of_none hhG ntp)]; exact hhG
      have w1 := wl_alloc (ms := [hh]) (o := .tup [.int (i : Nat), x]) ntp
      have en1 := enG.stay w1
      have dz1 := dzs.stay w1
      generalize upd G tp (.tup [.int (i : Nat), x]) = G1 at sG1 hed1 hh1 en1 dz1 ⊢
      clear w1 enG dzs hedG hhG sG
      have hxe := (hxe0.stay sG1).out
      have qk := qx i e st' hle gd
      refine ⟨_, rfl, x, e, rfl, hxe, ?_⟩
      rw [pairS_text]
      cases hpe : pairS e with
      | none =>
        have sd : stepD hm ps st' e = .road := by unfold stepD; rw [hpe]
        refine ⟨false, rfl, iteT ?_⟩
        refine iteT ⟨_, rfl, ?_⟩
        exact qk (by rw [sd]; exact fun _ _ z => nomatch z) _ _ sG1 hh1 dz1
      | some pq =>
        obtain ⟨a, b⟩ := pq
        cases pairS_some hpe
        obtain ⟨rb, us, rfl, hrb, hus, _⟩ := dv_tup hxe
        cases hus with
        | @cons va1 vs1 d1 ds1 hva t1 =>
        cases t1 with
        | @cons vb vs2 d2 ds2 hvb t2 =>
        cases t2
        cases dv_str hva
        cases dv_str hvb
        refine ⟨true, rfl, iteF ?_⟩
        refine ⟨_, rfl, _, rfl, ed, valV kvs [Sum.inr a, Sum.inr b], rfl, .inr ⟨kvs, [Sum.inr a, Sum.inr b], rb, .inl hed1, rfl, hrb, rfl⟩, ?_⟩
        by_cases jn : joined ps (a, b)
        case neg =>
          have sd : stepD hm ps st' (pairOf (a, b)) = .road := by
            unfold stepD; rw [hpe]
            show (if joined ps (a, b) then _ else _) = _
            rw [if_neg jn]
          rw [(en1 a b).2 jn]
          refine ⟨_, rfl, iteT ⟨_, rfl, ?_⟩⟩
          exact qk (by rw [sd]; exact fun _ _ z => nomatch z) _ _ sG1 hh1 dz1
        obtain ⟨t, i1, i2, hv, ht, n1, n2⟩ := (en1 a b).1 jn
        rw [hv]
        refine ⟨_, rfl, iteF ?_⟩
        have l1 := (List.getElem?_eq_some_iff.mp n1).1
        have l2 := (List.getElem?_eq_some_iff.mp n2).1
        rw [List.length_map] at l1 l2
        refine ⟨_, rfl, _, rfl, ed, _, rfl, .inr ⟨kvs, [Sum.inr a, Sum.inr b], rb, .inl hed1, rfl, hrb, hv.symm⟩, t, _, rfl, SqT.of (wl_some ht).2, rfl, _, _, rfl, _, _, rfl, rfl, ?_⟩
        have ei : lackD hm st' (a, b) = shortD hm st' i1 i2 := by
          show shortD _ _ (idxS _ a) (idxS _ b) = _
          rw [idxS_get ndn n1, idxS_get ndn n2]
        refine ⟨_, rfl, _, rfl, _, rfl, _, rfl, vh, .ref hh, hm, st', .list st', i1, i2, rfl, (hvh.stay sG1).out, .lst hh1 (dz1.stay (stay_wl _ _)) (by omega), .inr rfl, l1, l2, len', he, held', fun G2 r sr hr => ?_⟩
        have hh2 := sr.same _ _ hh1 (fun _ z => nomatch z)
        have sw2 := wl_stay (ms := [hh]) sr
        have sG2 := sG1.trans sw2
        have is := shortD_is hm st' i1 i2 held'
        rcases is with z | ⟨n, c, z⟩
        · rw [z] at hr
          cases dv_non hr
          refine ⟨rfl, false, by simp, iteF ?_⟩
          have sd : stepD hm ps st' (pairOf (a, b)) = .go i1 i2 := by
            unfold stepD; rw [hpe]
            show (if joined ps (a, b) then (match lackD hm st' (a, b) with | .tuple [.str n, .int c] => Step.lack n c | _ => .go (idxS (hm.map entryName) a) (idxS (hm.map entryName) b)) else _) = _
            rw [if_pos jn, ei, z, idxS_get ndn n1, idxS_get ndn n2]
          have sH := sG2
          refine ⟨_, rfl, _, rfl, _, rfl, _, rfl, vh, hh, hm, st', zs, i1, i2, rfl, hvh.stay sH, hh2, dz1.stay sw2, l1, l2, len', he, held', fun G3 zs3 s3w hh3 dz3 => ?_⟩
          have sH3 := sH.trans s3w
          refine ⟨_, _, _, _, zs3, _, rfl, sH3, ?_, hh3, (en1.stay sw2).stay s3w, dz3, gone_take hle gd sd⟩
          have h4 := sr.same _ _ hed1 (fun _ z => nomatch z)
          have ne : ed ≠ hh := fun z => by rw [z, hh1] at hed1; cases hed1
          have h5 : wl [hh] G2 ed = some (.dT kvs) := by rw [wl_out (by simpa using ne)]; exact h4
          exact (wl_some (s3w.same _ _ h5 fun _ z => nomatch z)).2
        · rw [z] at hr
          have sd : stepD hm ps st' (pairOf (a, b)) = .lack n c := by
            unfold stepD; rw [hpe]
            show (if joined ps (a, b) then (match lackD hm st' (a, b) with | .tuple [.str n, .int c] => Step.lack n c | _ => .go (idxS (hm.map entryName) a) (idxS (hm.map entryName) b)) else _) = _
            rw [if_pos jn, ei, z]
          obtain ⟨u, us2, rfl, _, _, _⟩ := dv_tup hr
          refine ⟨rfl, true, by simp, iteT ⟨_, rfl, ?_⟩⟩
          exact qk (by rw [sd]; exact fun _ _ z => nomatch z) _ _ sG2 hh2 (dz1.stay sw2)
theorem step_ngo {hm : List PyData} {ps : List (Str × Str)} {st : List PyData} {e : PyData} (h : ∀ i j, stepD hm ps st e ≠ .go i j) : stepD hm ps st e = .road ∨ ∃ n c, stepD hm ps st e = .lack n c := by
  cases z : stepD hm ps st e with
  | go i j => exact absurd z (h i j)
  | road => exact .inl rfl
  | lack n c => exact .inr ⟨n, c, rfl⟩
/-! ### gone -/
abbrev s_gone : Stmt := topS 32
abbrev N_gone : List Str := ["town", "standing", "row", "here", "at", "pair", "ends", "one", "other", "hand", "lacks"]
abbrev P_gone : List Str := ["town", "standing", "row"]
theorem sc_gone : FnScope N_gone P_gone (defScope s_gone) := ⟨rfl, rfl, rfl, by decide +kernel, rfl, by decide +kernel, by decide +kernel⟩

def sp_gone (T CR CO CH : Addr) : Sp := fun vs H Q E => ∃ (v v2 v3 : V) (d3 : PyData) (hm : List PyData) (ps : List (Str × Str)) (st : List PyData), vs = [v, v2, v3] ∧ DV H v (.tuple [.tuple hm, .tuple (ps.map pairOf)]) ∧ DV H v2 (.tuple st) ∧ DV H v3 d3 ∧ TG T H ∧
  townWrong (.tuple [.tuple hm, .tuple (ps.map pairOf)]) = .none ∧ standingWrong (.tuple [.tuple hm, .tuple (ps.map pairOf)]) (.tuple st) = .none ∧
  ((∀ l, d3 ≠ .list l) → ∀ H', StayT H H' → E (.ref CR) none H') ∧
  (∀ a xs l, v3 = .ref a → H a = some (.lst xs) → d3 = .list l → (∀ st', goneD hm ps st l = some st' → ∀ H' r, StayT H H' → DV H' r (.tuple st') → Q r H') ∧
    ∀ (k : Nat) (x : V) (e : PyData) (st' : List PyData), xs[k]? = some x → l[k]? = some e → goneD hm ps st (l.take k) = some st' → (stepD hm ps st' e = .road → RaisesR CO [("at", .int k), ("pair", x)] H E) ∧ ∀ n c, stepD hm ps st' e = .lack n c → RaisesR CH [("at", .int k), ("lacks", .int c), ("hand", .str n)] H E)
theorem ok_gone {CT CS CR CO CH : Addr} (F : FnP K "gone" s_gone f fd) (fr : Free mg) (c_check_standing : Cal P w K mg base "check_standing" 7 P_check_standing (sp_check_standing T CT CS))
    (c_is_text_pair : Cal P w K mg base "is_text_pair" 2 P_is_text_pair sp_is_text_pair) (c_stuck : Cal P w K mg base "stuck" 3 P_stuck sp_stuck)
    (c_road_ends : Cal P w K mg base "road_ends" 1 P_road_ends sp_road_ends) (c_shortage : Cal P w K mg base "shortage" 1 P_shortage sp_shortage)
    (x_NoRow : Exc0 K mg "NoRow" CR) (x_NoRoad : ExcN P w K mg base "NoRoad" ["pair", "at"] 2 (fs2 "pair" "at") CO) (x_Short : ExcN P w K mg base "Short" ["hand", "lacks", "at"] 3 (fs3 "hand" "lacks" "at") CH) :
    FnOk P w K mg base (L2.CX P w) 8 f fd P_gone (sp_gone T CR CO CH) := by
  refine F.ok sc_gone (fun vs H Q E h => ?_) (fun cdv A outer s H vs Q E hr h => ⟨_, (pss_cons (ps_expr (pe_X (W := fun cls d _ H => E cls d H) c_check_standing (hr.mono (by omega)) (takes_of (E := E) rfl rfl rfl rfl) (pa_cons (pv 0) (pa_cons (pv 1) pa_nil))))
    (pss_cons (ps_if (pt_not (pt_val (pe_callB call_isL (by rfl) (fr "isinstance" (by decide)) (by decide +kernel) (pa_cons (pv 2) (pa_cons (pe_ty (n := "list") fr) pa_nil))))) (pss_one (ps_raise rfl (takes_of (E := E) rfl rfl rfl rfl) (pmk_0 x_NoRow))) pss_nil)
    (pss_cons (ps_set (i := 3) sc_gone.nd rfl (Or.inl rfl) (pe_callTy call_list_of (by rfl) (fr "list" (by decide)) (by decide +kernel) (pa_cons (pv 1) pa_nil)))
    (pss_cons (ps_set (i := 4) sc_gone.nd rfl (Or.inl rfl) (pe_F c_stuck (hr.mono (by omega)) (pa_cons (pv 0) (pa_cons (pv 3) (pa_cons (pv 2) pa_nil)))))
    (pss_cons (ps_if (pt_cmpR op_isN (pv 4) pe_non (nomark _)) (pss_one (ps_ret (pe_callTy call_tuple_of (by rfl) (fr "tuple" (by decide)) (by decide +kernel) (pa_cons (pv 3) pa_nil)))) pss_nil)
    (pss_cons (ps_set (i := 5) sc_gone.nd rfl (Or.inl rfl) (pe_ix ix_K (pv 2) (pv 4) (fun _ _ => rfl)))
    (pss_cons (ps_set (i := 6) sc_gone.nd rfl (Or.inl rfl) (pe_F c_road_ends (hr.mono (by omega)) (pa_cons (pv 0) pa_nil)))
    (pss_cons (ps_if (PW.pt (pw_or (pt_not (pt_val (pe_F c_is_text_pair (hr.mono (by omega)) (pa_cons (pv 5) pa_nil)))) (pw_or1 (pt_cmp (pc_dnotin (hu_of hr) (pv 5) (pv 6)))))) (pss_one (ps_raise rfl (takes_of (E := E) rfl rfl rfl rfl) (pmk_2 x_NoRoad (hr.mono (by omega)) (pv 5) (pv 4)))) pss_nil)
    (pss_cons (ps_asg (pe_dget (hu_of hr) (pv 6) (pv 5) (fun _ _ => rfl)) (pg_tup rfl (pgs_cons (pg_name (i := 7) sc_gone.nd rfl (Or.inl rfl)) (pgs_cons (pg_name (i := 8) sc_gone.nd rfl (Or.inl rfl)) pgs_nil))))
    (pss_cons (ps_asg (pe_F c_shortage (hr.mono (by omega)) (pa_cons (pe_ix ix_D (pv 0) pe_int (fun _ _ => rfl)) (pa_cons (pv 3) (pa_cons (pv 7) (pa_cons (pv 8) pa_nil))))) (pg_tup rfl (pgs_cons (pg_name (i := 9) sc_gone.nd rfl (Or.inl rfl)) (pgs_cons (pg_name (i := 10) sc_gone.nd rfl (Or.inl rfl)) pgs_nil))))
    (pss_one (ps_raise rfl (takes_of (E := E) rfl rfl rfl rfl) (pmk_3 x_Short (hr.mono (by omega)) (pv 9) (pv 10) (pv 4)))))))))))))), ?_⟩)
  · obtain ⟨v, v2, v3, d3, hm, ps, st, rfl, _⟩ := h; rfl
  · obtain ⟨v, v2, v3, d3, hm, ps, st, rfl, hd, hd2, hd3, tg, tw, sw, xr, q⟩ := h
    refine ⟨v, rfl, v2, rfl, v, _, v2, _, rfl, hd, hd2, tg, fun _ _ H1 s1 => ?_, fun z => absurd tw z, fun _ z => absurd sw z⟩
    obtain ⟨hm', rs', st0, e1, e2, len, he, hs, nd⟩ := standing_shape tw sw
    cases e1
    cases e2
    have hd1 := hd.stay s1
    have hr1 := hd3.stay s1
    refine ⟨_, rfl, v3, d3, rfl, hr1, ?_⟩
    by_cases isl : ∃ l, d3 = .list l
    case neg =>
      have e0 : isD "list" d3 = false := by
        cases d3 with
        | list l => exact absurd ⟨l, rfl⟩ isl
        | _ => simp [isD, isT, tyD]
      rw [e0]
      exact ⟨_, rfl, iteT (xr (fun l z => isl ⟨l, z⟩) _ s1)⟩
    obtain ⟨l, rfl⟩ := isl
    refine ⟨true, rfl, iteF ?_⟩
    obtain ⟨d0, l0, rs0, e0, bh, br⟩ := town_shape tw
    cases e0
    obtain ⟨ps', e3, hps⟩ := badRoad_is _ _ _ _ br
    have inj : ∀ x y : Str × Str, pairOf x = pairOf y → x = y := fun x y h => by cases x; cases y; cases h; rfl
    cases (List.map_inj_right inj).mp e3
    have ndn := badHome_nodup _ _ _ bh List.nodup_nil
    rw [List.nil_append] at ndn
    generalize d0 :: l0 = hm at *
    obtain ⟨a2, ys, rfl, ha2, hys, hly⟩ := dv_tup (hd2.stay s1)
    refine ⟨_, rfl, _, ys, rfl, .inr (SqT.of ha2), fun hh nhh => ?_⟩
    have s2 := (StayT.refl H1).new (o := .lst ys) nhh
    obtain ⟨ra, xs, er, hra0, hxs0⟩ : ∃ ra xs, v3 = .ref ra ∧ H ra = some (.lst xs) ∧ DVs H xs l := by
      cases hd3 with
      | lst e d _ => exact ⟨_, _, rfl, e, d⟩
    subst er
    obtain ⟨qf, qx⟩ := q ra xs l rfl hra0 rfl
    have w0 : wl [hh] (upd H1 hh (.lst ys)) = H1 := by rw [wl_upd_in (List.mem_singleton.mpr rfl), wl_none nhh]
    refine ⟨_, rfl, _, rfl, _, rfl, v, .ref ra, hh, ys, hm, ps, st, l, rfl, upd_same, by rw [w0]; exact hd1, by rw [w0]; exact hys, by rw [w0]; exact hr1, tw, sw, fun st' g G zs' sG hhG dz => ?_, fun k e st' hk g ng G zs' sG hhG dz => ?_⟩
    · obtain ⟨_, _, st1, e1, e2, len', _, _, _⟩ := standing_shape tw (gone_stands tw hps _ _ _ sw g)
      cases e1
      cases e2
      rw [w0] at sG
      refine ⟨_, rfl, rfl, _, rfl, iteT ⟨_, rfl, _, zs', rfl, .inl ⟨SqL.of hhG, fun t nt => ?_⟩⟩⟩
      exact qf _ g _ _ ((s1.trans (sG.trans (stay_wl _ _))).new nt) (.tup upd_same (dz.out.stay ((StayT.refl G).new nt)) (by omega))
    · obtain ⟨_, _, st1, e1, e2, len', _, hs', _⟩ := standing_shape tw (gone_stands tw hps _ _ _ sw g)
      cases e1
      cases e2
      have held' : ∀ d ∈ st', held d := fun d hd => held_of (hs' d hd)
      rw [w0] at sG
      have sG1 := sG.trans (stay_wl _ _)
      have sG0 := s1.trans sG1
      have hra := sG0.same _ _ hra0 fun _ z => nomatch z
      obtain ⟨x, hx, _⟩ := hxs0.got hk
      have hxe : DV G x e := by
        obtain ⟨e', he', hxe'⟩ := hxs0.get hx
        rw [hk] at he'
        cases he'
        exact hxe'.stay sG0
      obtain ⟨xroad, xlack⟩ := qx k x e st' hx hk g
      refine ⟨_, rfl, rfl, _, rfl, iteF ?_⟩
      refine ⟨_, rfl, _, rfl, .inl ⟨ra, xs, _, x, rfl, rfl, SqL.of hra, atI_nat hx, ?_⟩⟩
      have hdG := hd1.stay sG1
      refine ⟨_, rfl, _, _, ps, rfl, hdG, he, ndn, hps, fun H2 ed kvs s2 ned hed en => ?_⟩
      have hxe2 := hxe.stay s2
      have hra2 := s2.same _ _ hra fun _ z => nomatch z
      have hh2 := s2.same _ _ hhG fun _ z => nomatch z
      refine ⟨_, rfl, x, e, rfl, hxe2, ?_⟩
      rw [pairS_text]
      cases hpe : pairS e with
      | none =>
        have sd : stepD hm ps st' e = .road := by unfold stepD; rw [hpe]
        refine ⟨false, rfl, iteT ?_⟩
        refine iteT ⟨_, rfl, _, rfl, madeN rfl (by decide) fun dd ndd => ?_⟩
        exact xroad sd _ _ ((sG0.trans s2).new ndd) upd_same
      | some pq =>
        obtain ⟨a, b⟩ := pq
        cases pairS_some hpe
        obtain ⟨rb, us, rfl, hrb, hus, _⟩ := dv_tup hxe2
        cases hus with
        | @cons va1 vs1 d1 ds1 hva t1 =>
        cases t1 with
        | @cons vb vs2 d2 ds2 hvb t2 =>
        cases t2
        cases dv_str hva
        cases dv_str hvb
        refine ⟨true, rfl, iteF ?_⟩
        refine ⟨_, rfl, _, rfl, ed, valV kvs [Sum.inr a, Sum.inr b], rfl, .inr ⟨kvs, [Sum.inr a, Sum.inr b], rb, .inl hed, rfl, hrb, rfl⟩, ?_⟩
        by_cases jn : joined ps (a, b)
        case neg =>
          have sd : stepD hm ps st' (pairOf (a, b)) = .road := by
            unfold stepD; rw [hpe]
            show (if joined ps (a, b) then _ else _) = _
            rw [if_neg jn]
          rw [(en a b).2 jn]
          refine ⟨_, rfl, iteT ⟨_, rfl, _, rfl, madeN rfl (by decide) fun dd ndd => ?_⟩⟩
          exact xroad sd _ _ ((sG0.trans s2).new ndd) upd_same
        obtain ⟨t, i1, i2, hv, ht, n1, n2⟩ := (en a b).1 jn
        rw [hv]
        refine ⟨_, rfl, iteF ?_⟩
        have l1 := (List.getElem?_eq_some_iff.mp n1).1
        have l2 := (List.getElem?_eq_some_iff.mp n2).1
        rw [List.length_map] at l1 l2
        refine ⟨_, rfl, _, rfl, ed, _, rfl, .inr ⟨kvs, [Sum.inr a, Sum.inr b], rb, .inl hed, rfl, hrb, hv.symm⟩, t, _, rfl, SqT.of ht, rfl, _, _, rfl, _, _, rfl, rfl, ?_⟩
        have ei : lackD hm st' (a, b) = shortD hm st' i1 i2 := by
          show shortD _ _ (idxS _ a) (idxS _ b) = _
          rw [idxS_get ndn n1, idxS_get ndn n2]
        refine ⟨_, rfl, _, _, 0, hdG.stay s2, rfl, rfl, fun vh hvh => ?_⟩
        refine ⟨_, rfl, _, rfl, _, rfl, vh, .ref hh, hm, st', .list st', i1, i2, rfl, hvh, .lst hh2 (dz.out.stay s2) (by omega), .inr rfl, l1, l2, len', he, held', fun G2 r sr hr => ?_⟩
        rcases step_ngo ng with sd | ⟨n, c, sd⟩
        · exfalso
          unfold stepD at sd
          rw [hpe] at sd
          change (if joined ps (a, b) then (match lackD hm st' (a, b) with | .tuple [.str n, .int c] => Step.lack n c | _ => .go (idxS (hm.map entryName) a) (idxS (hm.map entryName) b)) else _) = _ at sd
          rw [if_pos jn, ei] at sd
          rcases shortD_is hm st' i1 i2 held' with z | ⟨n, c, z⟩ <;> rw [z] at sd <;> cases sd
        · have z : shortD hm st' i1 i2 = .tuple [.str n, .int c] := by
            have sd2 := sd
            unfold stepD at sd2
            rw [hpe] at sd2
            change (if joined ps (a, b) then (match lackD hm st' (a, b) with | .tuple [.str n, .int c] => Step.lack n c | _ => .go (idxS (hm.map entryName) a) (idxS (hm.map entryName) b)) else _) = _ at sd2
            rw [if_pos jn, ei] at sd2
            rcases shortD_is hm st' i1 i2 held' with z | ⟨n', c', z⟩
            · rw [z] at sd2; cases sd2
            · rw [z] at sd2; cases sd2; exact z
          rw [z] at hr
          obtain ⟨u, us2, rfl, hu, hus2, _⟩ := dv_tup hr
          cases hus2 with
          | @cons va3 vs3 d3 ds3 hva3 t3 =>
          cases t3 with
          | @cons vb4 vs4 d4 ds4 hvb4 t4 =>
          cases t4
          cases dv_str hva3
          cases dv_int hvb4
          refine ⟨u, _, rfl, SqT.of hu, rfl, _, _, rfl, _, _, rfl, rfl, ?_⟩
          refine ⟨_, rfl, _, rfl, _, rfl, madeN rfl (by decide) fun dd ndd => ?_⟩
          exact xlack n c sd _ _ ((sG0.trans (s2.trans sr)).new ndd) upd_same
end
end WR
namespace WR
open PySem PySem.Spec PyProof.Rows L2
section
variable {P : Program} {w : World} {K : PySem.W.Frag} {mg : Str → Option Value} {base : Heap} {f : Addr} {fd : FuncData} {T : Addr}
/-! ### exchanged -/
abbrev s_exchanged : Stmt := topS 31
abbrev N_exchanged : List Str := ["town", "standing", "pair"]
abbrev P_exchanged : List Str := ["town", "standing", "pair"]
theorem sc_exchanged : FnScope N_exchanged P_exchanged (defScope s_exchanged) := ⟨rfl, rfl, rfl, by decide +kernel, rfl, by decide +kernel, by decide +kernel⟩

def sp_exchanged (T CO CH : Addr) : Sp := fun vs H Q E => ∃ (v v2 x : V) (e : PyData) (hm : List PyData) (ps : List (Str × Str)) (st : List PyData), vs = [v, v2, x] ∧ DV H v (.tuple [.tuple hm, .tuple (ps.map pairOf)]) ∧ DV H v2 (.tuple st) ∧ DV H x e ∧ TG T H ∧
  townWrong (.tuple [.tuple hm, .tuple (ps.map pairOf)]) = .none ∧ standingWrong (.tuple [.tuple hm, .tuple (ps.map pairOf)]) (.tuple st) = .none ∧
  (∀ i j, stepD hm ps st e = .go i j → ∀ H' r, StayT H H' → DV H' r (.tuple (exchangeD hm st i j)) → Q r H') ∧
  (stepD hm ps st e = .road → RaisesR CO [("at", .int 0), ("pair", x)] H E) ∧ ∀ n c, stepD hm ps st e = .lack n c → RaisesR CH [("at", .int 0), ("lacks", .int c), ("hand", .str n)] H E
theorem ok_exchanged {CR CO CH : Addr} (F : FnP K "exchanged" s_exchanged f fd) (fr : Free mg) (c_gone : Cal P w K mg base "gone" 8 P_gone (sp_gone T CR CO CH)) :
    FnOk P w K mg base (L2.CX P w) 9 f fd P_exchanged (sp_exchanged T CO CH) := by
  refine F.ok sc_exchanged (fun vs H Q E h => ?_) (fun cdv A outer s H vs Q E hr h => ⟨_, (pss_one (ps_ret (pe_X (W := fun cls d _ H => E cls d H) c_gone (hr.mono (by omega)) (takes_of (E := E) rfl rfl rfl rfl) (pa_cons (pv 0) (pa_cons (pv 1) (pa_cons (pe_lst (pa_cons (pv 2) pa_nil)) pa_nil)))))), ?_⟩)
  · obtain ⟨v, v2, x, e, hm, ps, st, rfl, _⟩ := h; rfl
  · obtain ⟨v, v2, x, e, hm, ps, st, rfl, hd, hd2, hx, tg, tw, sw, q, xr, xl⟩ := h
    refine ⟨v, rfl, v2, rfl, x, rfl, by show 1 ≤ sizeLine; decide, fun a na => ?_⟩
    have s1 := (StayT.refl H).new (o := .lst [x]) na
    refine ⟨v, v2, .ref a, .list [e], hm, ps, st, rfl, hd.stay s1, hd2.stay s1, .lst upd_same (.cons (hx.stay s1) .nil) (by show 1 ≤ 1000; decide), s1.tabG tg, tw, sw, fun z => absurd rfl (z [e]), fun b xs l eb hb el => ?_⟩
    cases eb
    cases el
    rw [upd_same] at hb
    cases hb
    refine ⟨fun st' g H' r s2 hr => ?_, fun k x' e' st' hk he g => ?_⟩
    · cases z : stepD hm ps st e with
      | go i j =>
        rw [gone_one z] at g
        cases g
        exact q i j z _ _ (s1.trans s2) hr
      | road => change (match stepD hm ps st e with | .go i j => goneD hm ps (exchangeD hm st i j) [] | _ => none) = _ at g; rw [z] at g; cases g
      | lack n c => change (match stepD hm ps st e with | .go i j => goneD hm ps (exchangeD hm st i j) [] | _ => none) = _ at g; rw [z] at g; cases g
    · cases k with
      | succ k => cases hk
      | zero =>
        cases hk
        cases he
        cases g
        exact ⟨fun z H' dd s2 hdd => xr z _ _ (s1.trans s2) hdd, fun n c z H' dd s2 hdd => xl n c z _ _ (s1.trans s2) hdd⟩
end
end WR
namespace WR
open PySem PySem.Spec PyProof.Rows L2
section
variable {P : Program} {w : World} {K : PySem.W.Frag} {mg : Str → Option Value} {base : Heap} {f : Addr} {fd : FuncData} {T : Addr}
/-! ### _law_town -/
abbrev s_law_town : Stmt := topS 40
abbrev N_law_town : List Str := ["purse", "most", "names", "homes", "roads", "k", "pair", "turned", "road", "name"]
abbrev P_law_town : List Str := ["purse", "most"]
theorem sc_law_town : FnScope N_law_town P_law_town (defScope s_law_town) := ⟨rfl, rfl, rfl, by decide +kernel, rfl, by decide +kernel, by decide +kernel⟩

def sp_law_town : Sp := fun vs H Q _ => ∃ (p : Addr) (mm b : Nat), vs = [.ref p, .int (mm : Nat)] ∧ 1 ≤ mm ∧ mm ≤ 8 ∧ Purse H p b ∧ b ≤ 800000 ∧ ∀ H' v d, StayT (wl [p] H) (wl [p] H') → Purse H' p (b + 100) → DV (wl [p] H') v d → TownD d → townWrong d = .none → Q v H'
theorem ok_law_town (F : FnP K "_law_town" s_law_town f fd) (fr : Free mg) (c_law_draw : Cal P w K mg base "_law_draw" 2 P_law_draw sp_law_draw) (c_law_words : Cal P w K mg base "_law_words" 3 P_law_words sp_law_words) : FnOk P w K mg base (L2.CX P w) 4 f fd P_law_town sp_law_town := by
  refine F.ok sc_law_town (fun vs H Q E h => ?_) (fun cdv A outer s H vs Q E hr h => ⟨_, PSs.nox (pss_cons (ps_set (i := 2) sc_law_town.nd rfl (Or.inl rfl) (pe_F c_law_words (hr.mono (by omega)) (pa_cons (pv 0) (pa_cons (pe_op op_add pe_int (pe_F c_law_draw (hr.mono (by omega)) (pa_cons (pv 0) (pa_cons (pv 1) pa_nil)))) pa_nil))))
    (pss_cons (ps_set (i := 3) sc_law_town.nd rfl (Or.inl rfl) (pe_callTy call_tuple_of (by rfl) (fr "tuple" (by decide)) (by decide +kernel) (pa_cons (pe_lc (own := [("name", 9)]) (g := gName 9) (tt := tYes) rfl sc_law_town.nd (pi_list (pv 2)) (blkOk_by (N := N_law_town) (sc := defScope s_law_town) (by decide +kernel)) (fun _ _ _ _ _ => (pg_name (i := 9) sc_law_town.nd rfl (Or.inl rfl))) (fun _ _ _ _ _ => by exact pts_nil) (fun _ _ _ _ _ => by exact (pe_tup (pa_cons (pv 9) (pa_cons (pe_ix ix_D (pe_lst (pa_cons pe_int (pa_cons pe_int (pa_cons pe_int (pa_cons pe_int (pa_cons pe_int (pa_cons pe_int pa_nil))))))) (pe_F c_law_draw (hr.mono (by omega)) (pa_cons (pv 0) (pa_cons pe_int pa_nil))) (fun _ _ => rfl)) pa_nil))))) pa_nil)))
    (pss_cons (ps_set (i := 4) sc_law_town.nd rfl (Or.inl rfl) (pe_lst pa_nil))
    (pss_cons (ps_for PassesOwn.never rfl (pi_range2 rfl (fr "range" (by decide)) (pa_cons pe_int (pa_cons (pe_callB call_lenD' (by rfl) (fr "len" (by decide)) (by decide +kernel) (pa_cons (pv 2) pa_nil)) pa_nil))) (pg_name (i := 5) sc_law_town.nd rfl (Or.inl rfl)) (pss_one (ps_if (pt_cmpR op_gt (pe_F c_law_draw (hr.mono (by omega)) (pa_cons (pv 0) (pa_cons pe_int pa_nil))) pe_int (nomark _)) (pss_one (ps_expr (pe_bm PySem.F.plainAttrs_list PySem.F.slot_list_append PySem.F.type_list_append mt_append (pv 4) (pa_cons (pe_tup (pa_cons (pe_ix ix_D (pv 2) (pe_F c_law_draw (hr.mono (by omega)) (pa_cons (pv 0) (pa_cons (pv 5) pa_nil))) (fun _ _ => rfl)) (pa_cons (pe_ix ix_D (pv 2) (pv 5) (fun _ _ => rfl)) pa_nil))) pa_nil)))) pss_nil)))
    (pss_cons (ps_for PassesOwn.never rfl (pi_range1 rfl (fr "range" (by decide)) (pa_cons (pe_F c_law_draw (hr.mono (by omega)) (pa_cons (pv 0) (pa_cons pe_int pa_nil))) pa_nil)) (pg_name (i := 5) sc_law_town.nd rfl (Or.inl rfl)) (pss_cons (ps_set (i := 6) sc_law_town.nd rfl (Or.inl rfl) (pe_tup (pa_cons (pe_ix ix_D (pv 2) (pe_F c_law_draw (hr.mono (by omega)) (pa_cons (pv 0) (pa_cons (pe_callB call_lenD' (by rfl) (fr "len" (by decide)) (by decide +kernel) (pa_cons (pv 2) pa_nil)) pa_nil))) (fun _ _ => rfl)) (pa_cons (pe_ix ix_D (pv 2) (pe_F c_law_draw (hr.mono (by omega)) (pa_cons (pv 0) (pa_cons (pe_callB call_lenD' (by rfl) (fr "len" (by decide)) (by decide +kernel) (pa_cons (pv 2) pa_nil)) pa_nil))) (fun _ _ => rfl)) pa_nil))))
    (pss_one (ps_if (PW.pt (pw_and (pt_cmpR (op_neDD hr.units) (pe_ix ix_D (pv 6) pe_int (fun _ _ => rfl)) (pe_ix ix_D (pv 6) pe_int (fun _ _ => rfl)) (nomark _)) (pw_and (pt_cmpR (notInD_K (units1 hr)) (pv 6) (pv 4) rfl) (pw_and1 (pt_cmpR (notInD_K (units1 hr)) (revT_K (pv 6)) (pv 4) rfl))))) (pss_one (ps_expr (pe_bm PySem.F.plainAttrs_list PySem.F.slot_list_append PySem.F.type_list_append mt_append (pv 4) (pa_cons (pv 6) pa_nil)))) pss_nil))))
    (pss_cons (ps_set (i := 7) sc_law_town.nd rfl (Or.inl rfl) (pe_lst pa_nil))
    (pss_cons (ps_for PassesOwn.never rfl (pi_list (pv 4)) (pg_name (i := 8) sc_law_town.nd rfl (Or.inl rfl)) (pss_one (ps_expr (pe_bm PySem.F.plainAttrs_list PySem.F.slot_list_append PySem.F.type_list_append mt_append (pv 7) (pa_cons (pe_ix ix_D (pe_lst (pa_cons (pv 8) (pa_cons (revT_K (pv 8)) pa_nil))) (pe_F c_law_draw (hr.mono (by omega)) (pa_cons (pv 0) (pa_cons pe_int pa_nil))) (fun _ _ => rfl)) pa_nil)))))
    (pss_one (ps_ret (pe_tup (pa_cons (pv 3) (pa_cons (pe_callTy call_tuple_of (by rfl) (fr "tuple" (by decide)) (by decide +kernel) (pa_cons (pv 7) pa_nil)) pa_nil)))))))))))), ?_⟩)
  · obtain ⟨p, mm, b, rfl, _⟩ := h; rfl
  · obtain ⟨p, mm, b, rfl, mm1, mm8, hp, hb, q⟩ := h
    refine ⟨_, rfl, _, rfl, _, rfl, p, mm, b, rfl, hp, by omega, by omega, by omega, fun H1 r s1 hp1 hr1 => ⟨_, _, rfl, rfl, p, 1 + r, b + 1, by push_cast; rfl, hp1, by omega, by omega, fun H2 an ns s2 hp2 nan han lns inns ndn => ?_⟩⟩
    have pm : p ∈ [p] := List.mem_singleton.mpr rfl
    have S2 : StayT (wl [p] H) (wl [p] H2) := (wl_draw s1 pm).trans (wl_draw s2 pm)
    have an_p : an ≠ p := hp1.ne nan
    have nsl : ns.length ≤ 8 := by omega
    refine ⟨_, rfl, an, rfl, ⟨_, SqL.of han⟩, fun D nD => ?_⟩
    have D_p : D ≠ p := hp2.ne nD
    have D_an : D ≠ an := fun z => by rw [z, han] at nD; cases nD
    have pD : p ∈ [D, p] := by simp
    have DD : D ∈ [D, p] := by simp
    have han2 : wl [p] H2 an = some (.lst (ns.map V.str)) := by rw [wl_out (by simpa using an_p)]; exact han
    refine lc_it (walk_list (xs := ns.map V.str)) (fun i H3 => ∃ vs ds, H3 D = some (.lst vs) ∧ DVs (wl [D, p] H3) vs ds ∧ ds.length = i ∧ (∀ d ∈ ds, HomeD d) ∧ StayT (wl [p] H2) (wl [D, p] H3) ∧ Purse H3 p (b + 9 + i) ∧ ds.map entryName = ns.take i) ?h0 ?hG ?hs ?hd
    case h0 =>
      refine ⟨[], [], upd_same, .nil, rfl, (fun _ z => by cases z), ?_, (hp2.upd D_p).mono (by omega), rfl⟩
      rw [wl_upd_in DD]
      exact wl_more nD
    case hG =>
      rintro i H3 hi ⟨vs, ds, hD, _, _, _, S, _⟩
      exact SqL.of (wl_some (S.same _ _ han2 fun _ z => nomatch z)).2
    case hs =>
      rintro i x _ H3 hi ⟨vs, ds, hD, hds, hl, hom, S, hp3, nms⟩ ⟨rfl, hx⟩
      have hi' : i < ns.length := by simpa using hi
      have hx' : x = .str ns[i] := by simpa [hi'] using hx.symm
      subst hx'
      refine ⟨rfl, yes_go ⟨_, rfl, by show 6 ≤ sizeLine; decide, fun ql nql => ?_⟩⟩
      have ql_p : ql ≠ p := hp3.ne nql
      have ql_D : ql ≠ D := fun z => by rw [z, hD] at nql; cases nql
      refine ⟨_, rfl, p, 6, b + 9 + i, rfl, hp3.upd ql_p, by omega, by omega, by omega, fun H5 r5 s5 hp5 hr5 => ?_⟩
      have e5 := drawn_keeps s5 ql_p upd_same
      refine pick_int (l := [0, 1, 1, 2, 3, 5]) e5 (by decide) hr5 fun j hj => ?_
      refine ⟨by show 2 ≤ sizeLine; decide, fun tp ntp => ?_⟩
      have hD5 : H5 D = some (.lst vs) := drawn_keeps s5 D_p (by rw [upd_ne ql_D.symm]; exact hD)
      have tp_D : tp ≠ D := fun z => by rw [z, hD5] at ntp; cases ntp
      have tp_p : tp ≠ p := hp5.ne ntp
      have S35 : StayT (wl [D, p] H3) (wl [D, p] H5) := (wl_alloc nql).trans (wl_draw s5 pD)
      have S36 := S35.trans (wl_alloc (ms := [D, p]) (o := .tup [.str ns[i], .int j]) ntp)
      obtain ⟨jn, rfl, jb⟩ : ∃ jn : Nat, j = jn ∧ jn ∈ coins := by
        have : ∀ j ∈ ([0, 1, 1, 2, 3, 5] : List Int), j = (j.toNat : Int) ∧ j.toNat ∈ coins := by decide
        exact ⟨j.toNat, this j hj⟩
      refine ⟨vs, by rw [upd_ne tp_D.symm]; exact hD5, ?_, vs ++ [.ref tp], ds ++ [.tuple [.str ns[i], .int jn]], upd_same, ?_, by simp [hl], all_snoc hom ⟨ns[i], inns _ (List.getElem_mem _), jn, jb, rfl⟩, ?_, ?_, ?_⟩
      · have : vs.length = ds.length := hds.length
        exact Nat.lt_of_le_of_lt (show vs.length ≤ 8 by omega) (by decide)
      · rw [wl_upd_in DD]
        exact (hds.stay S36).snoc (dv_made ntp (by simp [tp_D, tp_p]) (.two (dv_word (inns _ (List.getElem_mem _))) (.int _)) (by show 2 ≤ 1000; decide))
      · rw [wl_upd_in DD]
        exact S.trans S36
      · exact ((hp5.upd tp_p).upd D_p).mono (by omega)
      · rw [List.map_append, nms, List.take_add_one, List.getElem?_eq_getElem hi']; rfl
    case hd =>
      rintro H3 ⟨vs, ds, hD, hds, hl, hom, S, hp3, nms⟩
      rw [List.length_map] at hl hp3 nms
      rw [List.take_length] at nms
      refine ⟨D, vs, rfl, .inl ⟨SqL.of hD, fun hm nhm => ?_⟩⟩
      have hm_p : hm ≠ p := hp3.ne nhm
      have hm_D : hm ≠ D := fun z => by rw [z, hD] at nhm; cases nhm
      have S3 : StayT (wl [p] H2) (wl [p] (upd H3 hm (.tup vs))) := S.trans (wl_less.trans (wl_alloc nhm))
      have homes : DV (wl [p] (upd H3 hm (.tup vs))) (.ref hm) (.tuple ds) := dv_made nhm (by simpa using hm_p) (hds.stay wl_less) (by omega)
      have hp4 : Purse (upd H3 hm (.tup vs)) p (b + 17) := (hp3.upd hm_p).mono (by omega)
      generalize upd H3 hm (.tup vs) = H4 at S3 homes hp4
      have hl8 : ds.length ≤ 8 := by omega
      clear S hds hD hp3 hl hr1 nhm
      refine ⟨by show 0 ≤ sizeLine; decide, fun rd nrd => ?_⟩
      have rd_p : rd ≠ p := hp4.ne nrd
      have prd : p ∈ [rd, p] := by simp
      have rdrd : rd ∈ [rd, p] := by simp
      -- the names, on and on
      have names : ∀ {ms : List Addr} {G : Hp}, StayT (wl [p] H2) (wl ms G) → G an = some (.lst (ns.map V.str)) := fun S => (wl_some (S.same _ _ han2 fun _ z => nomatch z)).2
      have dn : ∀ {ms : List Addr} {G : Hp}, StayT (wl [p] H2) (wl ms G) → DV G (.ref an) (.list (ns.map PyData.str)) := fun S => .lst (names S) (dvs_words inns) (by rw [List.length_map]; omega)
      have ln : lenD (.list (ns.map PyData.str)) = some ns.length := by simp [lenD]
      have S4 : StayT (wl [p] H2) (wl [rd, p] (upd H4 rd (.lst []))) := by
        rw [wl_upd_in rdrd]
        exact S3.trans (wl_more nrd)
      have homes4 : DV (wl [rd, p] (upd H4 rd (.lst []))) (.ref hm) (.tuple ds) := by
        rw [wl_upd_in rdrd]
        exact homes.stay (wl_more nrd)
      refine ⟨_, rfl, _, _, ns.length, rfl, dn S4, ln, 1, (ns.length : Int), rfl, ⟨by decide, by decide, by omega, by omega⟩, ?_⟩
      refine for_it walk_range (fun i σ G => ∃ (vs : List V) (ps : List (Str × Str)) (v5 : Option V), σ = [some (.ref p), some (.int (mm : Nat)), some (.ref an), some (.ref hm), some (.ref rd), v5, none, none, none, none] ∧ StayT (wl [p] H2) (wl [rd, p] G) ∧ DV (wl [rd, p] G) (.ref hm) (.tuple ds) ∧ G rd = some (.lst vs) ∧ DVs (wl [rd, p] G) vs (ps.map pairOf) ∧ ps.length ≤ i ∧ Good ns ps ∧ Purse G p (b + 17 + 2 * i) ∧ (∀ q ∈ ps, ∃ j k : Nat, j ≤ i ∧ k ≤ i ∧ ns[j]? = some q.1 ∧ ns[k]? = some q.2)) ?h0 ?hG ?hs ?hd
      case h0 => exact ⟨[], [], none, rfl, S4, homes4, upd_same, .nil, Nat.le_refl _, good_nil ns, hp4.upd rd_p, (fun _ z => by cases z)⟩
      case hG => intros; trivial
      case hs =>
        rintro i x σ _ G hi ⟨vs, es, v5, rfl, S, hom5, hrd, hes, hl, gd, hpG, idx⟩ ⟨rfl, rfl⟩
        have hi' : i < ns.length - 1 := by omega
        refine ⟨_, rfl, p, 8, _, rfl, hpG, by omega, by omega, by omega, fun G1 r1 t1 hpG1 hr1 => ⟨_, _, rfl, rfl, _, rfl, ?_⟩⟩
        have T1 := wl_draw t1 prd
        have hrd1 := drawn_keeps t1 rd_p hrd
        by_cases z : (0 : Int) < (r1 : Nat)
        · rw [decide_eq_true z]
          refine iteT ⟨_, rfl, tyV_lst hrd1, _, rfl, _, rfl, _, rfl, p, 1 + i, _, by push_cast; rfl, hpG1, by omega, by omega, by omega, fun G2 r2 t2 hpG2 hr2 => ?_⟩
          have T2 := T1.trans (wl_draw t2 prd)
          have hrd2 := drawn_keeps t2 rd_p hrd1
          have b1 : r2 < ns.length := by omega
          have b2 : 1 + i < ns.length := by omega
          refine pick_wordAt (r := r2) rfl (names (S.trans T2)) (by omega) b1 inns ⟨_, rfl, _, rfl, ?_⟩
          refine pick_wordAt (r := 1 + i) (by show V.int (1 + (i : Int)) = .int ((1 + i : Nat) : Int); push_cast; rfl) (names (S.trans T2)) (by omega) b2 inns ⟨by show 2 ≤ sizeLine; decide, fun tp ntp => ?_⟩
          have e1 : ns[r2]? = some ns[r2] := List.getElem?_eq_getElem b1
          have e2 : ns[1 + i]? = some ns[1 + i] := List.getElem?_eq_getElem b2
          have hw1 : ns[r2] ∈ ns := List.getElem_mem b1
          have hw2 : ns[1 + i] ∈ ns := List.getElem_mem b2
          generalize ns[r2] = w1 at e1 hw1 ntp
          generalize ns[1 + i] = w2 at e2 hw2 ntp
          have ne12 : w1 ≠ w2 := fun z => by
            subst z
            have := nodup_at ndn e1 e2
            omega
          have n1 : (w1, w2) ∉ es := fun z => by
            obtain ⟨j, k, _, hk, _, h2⟩ := idx _ z
            have := nodup_at ndn h2 e2
            omega
          have n2 : (w2, w1) ∉ es := fun z => by
            obtain ⟨j, k, hj, _, h1, _⟩ := idx _ z
            have := nodup_at ndn h1 e2
            omega
          have tp_p : tp ≠ p := hpG2.ne ntp
          have tp_rd : tp ≠ rd := fun z => by rw [z, hrd2] at ntp; cases ntp
          have T3 := T2.trans (wl_alloc (ms := [rd, p]) (o := .tup [.str w1, .str w2]) ntp)
          refine ⟨rd, vs, .ref tp, rfl, rfl, by rw [upd_ne tp_rd.symm]; exact hrd2, ?_, vs ++ [.ref tp], es ++ [(w1, w2)], _, rfl, ?_, ?_, upd_same, ?_, by simp; omega, good_snoc gd hw1 hw2 ne12 n1 n2, ((hpG2.upd tp_p).upd rd_p).mono (by omega), ?_⟩
          · have : vs.length = (es.map pairOf).length := hes.length
            rw [List.length_map] at this
            exact Nat.lt_of_le_of_lt (show vs.length ≤ 8 by omega) (by decide)
          · rw [wl_upd_in rdrd]; exact S.trans T3
          · rw [wl_upd_in rdrd]; exact hom5.stay T3
          · rw [wl_upd_in rdrd, List.map_append]
            exact (hes.stay T3).snoc (dv_made ntp (by simp [tp_rd, tp_p]) (.two (dv_word (inns _ hw1)) (dv_word (inns _ hw2))) (by show 2 ≤ 1000; decide))
          · intro q hq
            rcases List.mem_append.mp hq with z | z
            · obtain ⟨j, k, h1, h2, h3⟩ := idx q z
              exact ⟨j, k, by omega, by omega, h3⟩
            · rw [List.mem_singleton.mp z]
              exact ⟨r2, 1 + i, by omega, by omega, e1, e2⟩
        · rw [decide_eq_false z]
          refine iteF ⟨vs, es, _, rfl, S.trans T1, hom5.stay T1, hrd1, hes.stay T1, by omega, gd, hpG1.mono (by omega), fun q hq => ?_⟩
          obtain ⟨j, k, h1, h2, h3⟩ := idx q hq
          exact ⟨j, k, by omega, by omega, h3⟩
      case hd =>
        rintro σ G ⟨vs, es, v5, rfl, S, hom5, hrd, hes, hl, gd, hpG, _⟩
        have vl : vs.length = es.length := by have := hes.length; rw [List.length_map] at this; exact this
        have hl7 : es.length ≤ 7 := by omega
        replace hpG : Purse G p (b + 31) := hpG.mono (by omega)
        clear hl
        refine ⟨_, rfl, p, 4, _, rfl, hpG, by omega, by omega, by omega, fun G1 r1 t1 hpG1 hr1 => ⟨(r1 : Int), rfl, by omega, by omega, ?_⟩⟩
        refine for_it walk_range (fun i σ G2 => ∃ (vs : List V) (es : List (Str × Str)) (v5 v6 : Option V), σ = [some (.ref p), some (.int (mm : Nat)), some (.ref an), some (.ref hm), some (.ref rd), v5, v6, none, none, none] ∧ StayT (wl [p] H2) (wl [rd, p] G2) ∧ DV (wl [rd, p] G2) (.ref hm) (.tuple ds) ∧ G2 rd = some (.lst vs) ∧ DVs (wl [rd, p] G2) vs (es.map pairOf) ∧ es.length ≤ 7 + i ∧ Good ns es ∧ Purse G2 p (b + 32 + 2 * i)) ?h0 ?hG ?hs ?hd
        case h0 =>
          have T1 := wl_draw t1 prd
          exact ⟨vs, es, v5, none, rfl, S.trans T1, hom5.stay T1, drawn_keeps t1 rd_p hrd, hes.stay T1, by omega, gd, hpG1.mono (by omega)⟩
        case hG => intros; trivial
        case hs =>
          clear hrd hes gd hpG S hom5 hpG1 vl
          rintro i x σ _ G hi ⟨vs, es, v5, v6, rfl, S, hom5, hrd, hes, hl, gd, hpG⟩ ⟨rfl, rfl⟩
          have hi' : i < 4 := by omega
          have vl : vs.length = es.length := by have := hes.length; rw [List.length_map] at this; exact this
          have pr := good_pairs gd inns
          refine ⟨_, rfl, _, rfl, _, rfl, _, _, ns.length, rfl, dn S, ln, p, ns.length, _, rfl, hpG, by omega, by omega, by omega, fun G2 r2 t2 hpG2 hr2 => ?_⟩
          have T2 := wl_draw t2 prd
          refine pick_word (names (S.trans T2)) (by omega) (by omega) inns fun w1 hw1 => ⟨_, rfl, _, rfl, _, rfl, _, _, ns.length, rfl, dn (S.trans T2), ln, p, ns.length, _, rfl, hpG2, by omega, by omega, by omega, fun G3 r3 t3 hpG3 hr3 => ?_⟩
          have T3 := T2.trans (wl_draw t3 prd)
          have hrd3 := drawn_keeps t3 rd_p (drawn_keeps t2 rd_p hrd)
          refine pick_word (names (S.trans T3)) (by omega) (by omega) inns fun w2 hw2 => ⟨by show 2 ≤ sizeLine; decide, fun tp ntp => ?_⟩
          have tp_p : tp ≠ p := hpG3.ne ntp
          have tp_rd : tp ≠ rd := fun z => by rw [z, hrd3] at ntp; cases ntp
          have T4 := T3.trans (wl_alloc (ms := [rd, p]) (o := .tup [.str w1, .str w2]) ntp)
          have pd : PairD (.tuple [.str w1, .str w2]) := ⟨w1, w2, inns _ hw1, inns _ hw2, rfl⟩
          have dp : DV (wl [rd, p] (upd G3 tp (.tup [.str w1, .str w2]))) (.ref tp) (.tuple [.str w1, .str w2]) := dv_made ntp (by simp [tp_rd, tp_p]) (.two (dv_word (inns _ hw1)) (dv_word (inns _ hw2))) (by show 2 ≤ 1000; decide)
          have htp : upd G3 tp (.tup [.str w1, .str w2]) tp = some (.tup [.str w1, .str w2]) := upd_same
          have hrd4 : upd G3 tp (.tup [.str w1, .str w2]) rd = some (.lst vs) := by rw [upd_ne tp_rd.symm]; exact hrd3
          have hpG4 := hpG3.upd (o := .tup [.str w1, .str w2]) tp_p
          have S4' := S.trans T4
          have hom4 := hom5.stay T4
          have hes4 := hes.stay T4
          generalize upd G3 tp (.tup [.str w1, .str w2]) = G4 at dp htp hrd4 hpG4 S4' hom4 hes4
          refine ⟨_, rfl, .tuple [.str w1, .str w2], .str w1, 0, dp.out, rfl, rfl, fun u1 hu1 => ⟨_, rfl, .tuple [.str w1, .str w2], .str w2, 1, dp.out, rfl, rfl, fun u2 hu2 => ⟨.str w1, .str w2, hu1, hu2, rfl, rfl, Nat.zero_le _, Nat.zero_le _, ⟨_, rfl, ?_⟩⟩⟩⟩
          obtain ⟨k1, k2⟩ := dp_pair (K := K) dp.out pd
          obtain ⟨k3, k4⟩ := dp_pairs (K := K) hrd4 hes4.out pr (by rw [List.length_map]; omega)
          have skip : ∀ G5, StayT (wl [rd, p] G4) (wl [rd, p] G5) → G5 rd = some (.lst vs) → Purse G5 p (b + 32 + 2 * i + 1 + 1) → _ := fun G5 T5 hrd5 hpG5 => (⟨vs, es, _, _, rfl, S4'.trans T5, hom4.stay T5, hrd5, hes4.stay T5, by omega, gd, hpG5.mono (by omega)⟩ : ∃ (vs : List V) (es : List (Str × Str)) (w5 w6 : Option V), [some (V.ref p), some (.int (mm : Nat)), some (.ref an), some (.ref hm), some (.ref rd), some (.int (0 + (i : Int))), some (.ref tp), none, none, none] = [some (.ref p), some (.int (mm : Nat)), some (.ref an), some (.ref hm), some (.ref rd), w5, w6, none, none, none] ∧ StayT (wl [p] H2) (wl [rd, p] G5) ∧ DV (wl [rd, p] G5) (.ref hm) (.tuple ds) ∧ G5 rd = some (.lst vs) ∧ DVs (wl [rd, p] G5) vs (es.map pairOf) ∧ es.length ≤ 7 + (i + 1) ∧ Good ns es ∧ Purse G5 p (b + 32 + 2 * (i + 1)))
          rw [if_pos rfl, eqv_str]
          by_cases same : w1 = w2
          · rw [decide_eq_true same]
            exact iteF (skip _ (StayT.refl _) hrd4 hpG4)
          rw [decide_eq_false same]
          refine iteT ⟨_, rfl, _, rfl, _, es.map pairOf, k1, k3, k2, k4, ⟨_, rfl, ?_⟩⟩
          rw [any_pair]
          by_cases in1 : (w1, w2) ∈ es
          · rw [decide_eq_true in1]
            exact iteF (skip _ (StayT.refl _) hrd4 hpG4)
          rw [decide_eq_false in1]
          refine iteT ⟨_, rfl, tp, _, _, rfl, SqT.of htp, fun tq ntq => ⟨_, rfl, ?_⟩⟩
          have tq_p : tq ≠ p := hpG4.ne ntq
          have tq_rd : tq ≠ rd := fun z => by rw [z, hrd4] at ntq; cases ntq
          have T5 := wl_alloc (ms := [rd, p]) (o := .tup [.str w2, .str w1]) ntq
          have hrd5 : upd G4 tq (.tup [.str w2, .str w1]) rd = some (.lst vs) := by rw [upd_ne tq_rd.symm]; exact hrd4
          have dq : DV (wl [rd, p] (upd G4 tq (.tup [.str w2, .str w1]))) (.ref tq) (.tuple [.str w2, .str w1]) := dv_made ntq (by simp [tq_rd, tq_p]) (.two (dv_word (inns _ hw2)) (dv_word (inns _ hw1))) (by show 2 ≤ 1000; decide)
          have qd : PairD (.tuple [.str w2, .str w1]) := ⟨w2, w1, inns _ hw2, inns _ hw1, rfl⟩
          obtain ⟨j1, j2⟩ := dp_pair (K := K) dq.out qd
          obtain ⟨j3, j4⟩ := dp_pairs (K := K) hrd5 (hes4.stay T5).out pr (by rw [List.length_map]; omega)
          refine ⟨_, es.map pairOf, j1, j3, j2, j4, ⟨_, rfl, ?_⟩⟩
          rw [any_pair]
          by_cases in2 : (w2, w1) ∈ es
          · rw [decide_eq_true in2]
            exact iteF (skip _ T5 hrd5 (hpG4.upd tq_p))
          rw [decide_eq_false in2]
          refine iteT ⟨_, rfl, tyV_lst hrd5, _, rfl, rd, vs, .ref tp, rfl, rfl, hrd5, ?_, vs ++ [.ref tp], es ++ [(w1, w2)], _, _, rfl, ?_, ?_, upd_same, ?_, by simp; omega, good_snoc gd hw1 hw2 same in1 in2, ((hpG4.upd tq_p).upd rd_p).mono (by omega)⟩
          · exact Nat.lt_of_le_of_lt (show vs.length ≤ 11 by omega) (by decide)
          · rw [wl_upd_in rdrd]; exact S4'.trans T5
          · rw [wl_upd_in rdrd]; exact hom4.stay T5
          · rw [wl_upd_in rdrd, List.map_append]
            exact (hes4.stay T5).snoc (dp.stay T5)
        case hd =>
          clear hrd hes gd hpG S hom5 hpG1 vl
          rintro σ G ⟨vs, es, v5, v6, rfl, S, hom5, hrd, hes, hl, gd, hpG⟩
          have pr := good_pairs gd inns
          have hl2 : es.length ≤ 11 := by omega
          replace hpG : Purse G p (b + 40) := hpG.mono (by omega)
          have vl : vs.length = es.length := by have := hes.length; rw [List.length_map] at this; exact this
          clear hl
          refine ⟨by show 0 ≤ sizeLine; decide, fun tn ntn => ?_⟩
          have tn_p : tn ≠ p := hpG.ne ntn
          have tn_rd : tn ≠ rd := fun z => by rw [z, hrd] at ntn; cases ntn
          have ptn : p ∈ [tn, p] := by simp
          have tntn : tn ∈ [tn, p] := by simp
          have L : StayT (wl [rd, p] G) (wl [tn, p] G) := wl_less.trans (wl_more ntn)
          have rdW : wl [tn, p] G rd = some (.lst vs) := by rw [wl_out (by simp [tn_rd.symm, rd_p])]; exact hrd
          refine ⟨_, rfl, rd, rfl, ⟨_, SqL.of (by rw [upd_ne tn_rd.symm]; exact hrd)⟩, ?_⟩
          have S5 := S.trans L
          have homG := hom5.stay L
          have hesG := hes.stay L
          refine for_it (walk_list (xs := vs)) (fun i σ G2 => ∃ (us : List V) (fs : List (Str × Str)) (v8 : Option V), σ = [some (.ref p), some (.int (mm : Nat)), some (.ref an), some (.ref hm), some (.ref rd), v5, v6, some (.ref tn), v8, none] ∧ StayT (wl [tn, p] G) (wl [tn, p] G2) ∧ G2 tn = some (.lst us) ∧ DVs (wl [tn, p] G2) us (fs.map pairOf) ∧ fs.length = i ∧ Turned es fs ∧ Purse G2 p (b + 40 + i)) ?h0 ?hG ?hs ?hd
          case h0 =>
            refine ⟨[], [], none, rfl, ?_, upd_same, .nil, rfl, (fun _ _ z => by simp at z), hpG.upd tn_p⟩
            rw [wl_upd_in tntn]; exact StayT.refl _
          case hG =>
            rintro i σ G2 hi ⟨us, fs, v8, rfl, U, _⟩
            exact SqL.of (wl_some (U.same _ _ rdW fun _ z => nomatch z)).2
          case hs =>
            rintro i x σ _ G2 hi ⟨us, fs, v8, rfl, U, htn, hfs, hfl, prf, hpG2⟩ ⟨rfl, hx⟩
            have hi' : i < 11 := by omega
            obtain ⟨d, hd0, hdx⟩ := (hesG.stay U).get hx
            obtain ⟨⟨w1, w2⟩, hq0, rfl⟩ : ∃ q, es[i]? = some q ∧ pairOf q = d := by
              rw [List.getElem?_map] at hd0
              cases hq : es[i]? with
              | none => rw [hq] at hd0; cases hd0
              | some q => rw [hq] at hd0; exact ⟨q, rfl, Option.some.inj hd0⟩
            obtain ⟨m1, m2, _⟩ := gd.1 _ (List.mem_of_getElem? hq0)
            have hw1 : w1 ∈ stock := inns _ m1
            have hw2 : w2 ∈ stock := inns _ m2
            obtain ⟨ra, xs, rfl, hra, hxs, _⟩ := dv_tup hdx
            cases hxs with
            | @cons va xs1 d1 ds1 ha t0 =>
            cases t0 with
            | @cons vb xs2 d2 ds2 hb t1 =>
            cases t1
            cases dv_str ha
            cases dv_str hb
            refine ⟨_, rfl, tyV_lst htn, _, rfl, _, rfl, ra, _, _, rfl, SqT.of (wl_some hra).2, fun tq ntq => ?_⟩
            have tq_p : tq ≠ p := hpG2.ne ntq
            have tq_tn : tq ≠ tn := fun z => by rw [z, htn] at ntq; cases ntq
            have dq : DV (wl [tn, p] (upd G2 tq (.tup [.str w2, .str w1]))) (.ref tq) (.tuple [.str w2, .str w1]) := dv_made ntq (by simp [tq_tn, tq_p]) (.two (dv_word hw2) (dv_word hw1)) (by show 2 ≤ 1000; decide)
            have T1 := wl_alloc (ms := [tn, p]) (o := .tup [.str w2, .str w1]) ntq
            refine ⟨by show 2 ≤ sizeLine; decide, fun ql nql => ?_⟩
            have htn1 : upd G2 tq (.tup [.str w2, .str w1]) tn = some (.lst us) := by rw [upd_ne tq_tn.symm]; exact htn
            have hpG3 := hpG2.upd (o := .tup [.str w2, .str w1]) tq_p
            have hdx1 := hdx.stay T1
            have hfs1 := hfs.stay T1
            have U1 := U.trans T1
            generalize upd G2 tq (.tup [.str w2, .str w1]) = G3 at dq nql htn1 hpG3 hdx1 hfs1 U1
            have ql_p : ql ≠ p := hpG3.ne nql
            have ql_tn : ql ≠ tn := fun z => by rw [z, htn1] at nql; cases nql
            refine ⟨_, rfl, p, 2, _, rfl, hpG3.upd ql_p, by omega, by omega, by omega, fun G4 r4 t4 hpG4 hr4 => ?_⟩
            have T4 := (wl_alloc (ms := [tn, p]) (o := .lst [.ref ra, .ref tq]) nql).trans (wl_draw t4 ptn)
            have htn4 := drawn_keeps t4 tn_p (show upd G3 ql (.lst [.ref ra, .ref tq]) tn = some (.lst us) by rw [upd_ne ql_tn.symm]; exact htn1)
            have both : ∀ v q, DV (wl [tn, p] G4) v (pairOf q) → (q = (w1, w2) ∨ q = (w2, w1)) → _ := fun v q hv pe => (⟨us ++ [v], fs ++ [q], _, rfl, by rw [wl_upd_in tntn]; exact U1.trans T4, upd_same, by rw [wl_upd_in tntn, List.map_append]; exact (hfs1.stay T4).snoc hv, by simp [hfl], turned_snoc prf (by rw [hfl]; exact hq0) pe, (hpG4.upd tn_p).mono (by omega)⟩ :
              ∃ (us' : List V) (fs : List (Str × Str)) (w8 : Option V), [some (.ref p), some (.int (mm : Nat)), some (.ref an), some (.ref hm), some (.ref rd), v5, v6, some (.ref tn), some (.ref ra), none] = [some (.ref p), some (.int (mm : Nat)), some (.ref an), some (.ref hm), some (.ref rd), v5, v6, some (.ref tn), w8, none] ∧ StayT (wl [tn, p] G) (wl [tn, p] (upd G4 tn (.lst (us ++ [v])))) ∧ upd G4 tn (.lst (us ++ [v])) tn = some (.lst us') ∧ DVs (wl [tn, p] (upd G4 tn (.lst (us ++ [v])))) us' (fs.map pairOf) ∧ fs.length = i + 1 ∧ Turned es fs ∧ Purse (upd G4 tn (.lst (us ++ [v]))) p (b + 40 + (i + 1)))
            have h4 : G4 ql = some (.lst [.ref ra, .ref tq]) := drawn_keeps t4 ql_p upd_same
            have d1 := hdx1.stay T4
            have d2 := dq.stay T4
            have lu : us.length < sizeLine := by
              have : us.length = (fs.map pairOf).length := hfs.length
              rw [List.length_map] at this
              exact Nat.lt_of_le_of_lt (show us.length ≤ 11 by omega) (by decide)
            refine pick_any h4 (.two d1.out d2.out) (by show 2 ≤ 1000; decide) hr4 fun v e he hv => ⟨tn, us, v, rfl, rfl, htn4, lu, ?_⟩
            have mm : ∀ m ∈ [tn, p], ∃ xs, G4 m = some (.lst xs) := fun m hm => by
              simp at hm
              rcases hm with rfl | rfl
              · exact ⟨_, htn4⟩
              · obtain ⟨n1, n2, n3, e1, _⟩ := hpG4
                exact ⟨_, e1⟩
            simp at he
            rcases he with rfl | rfl
            · exact both v (w1, w2) (pair_wl hv ⟨w1, w2, hw1, hw2, rfl⟩ mm) (.inl rfl)
            · exact both v (w2, w1) (pair_wl hv ⟨w2, w1, hw2, hw1, rfl⟩ mm) (.inr rfl)
          case hd =>
            rintro σ G2 ⟨us, fs, v8, rfl, U, htn, hfs, hfl, prf, hpG2⟩
            refine ⟨_, rfl, _, rfl, tn, us, rfl, .inl ⟨SqL.of htn, fun tt ntt => ?_⟩⟩
            have tt_p : tt ≠ p := hpG2.ne ntt
            have tt_tn : tt ≠ tn := fun z => by rw [z, htn] at ntt; cases ntt
            refine ⟨by show 2 ≤ sizeLine; decide, fun tz ntz => ?_⟩
            have hpG3 := hpG2.upd (o := .tup us) tt_p
            have tz_p : tz ≠ p := hpG3.ne ntz
            have A1 : StayT (wl [tn, p] G2) (wl [p] (upd G2 tt (.tup us))) := wl_less.trans (wl_alloc ntt)
            have A2 := A1.trans (wl_alloc (ms := [p]) (o := .tup [.ref hm, .ref tt]) ntz)
            have d1 : DV (wl [p] (upd G2 tt (.tup us))) (.ref tt) (.tuple (fs.map pairOf)) := dv_made ntt (by simpa using tt_p) (hfs.stay wl_less) (by rw [List.length_map]; omega)
            have d0 := (homG.stay U).stay A1
            refine q _ _ (.tuple [.tuple ds, .tuple (fs.map pairOf)]) (S2.trans (S5.trans (U.trans A2))) ((hpG3.upd tz_p).mono (by omega)) (dv_made ntz (by simpa using tz_p) (.two d0 d1) (by show 2 ≤ 1000; decide)) ⟨ds, fs.map pairOf, rfl, hl8, by rw [List.length_map]; omega, hom, good_pairs (good_turned gd prf) inns⟩ ?_
            cases ds with
            | nil => rw [← nms] at lns; simp at lns; omega
            | cons d0 dl => exact town_good hom (by rw [nms]; exact ndn) (by rw [nms]; exact good_turned gd prf)
end
end WR
namespace WR
open PySem PySem.Spec PyProof.Rows L2
section
variable {P : Program} {w : World} {K : PySem.W.Frag} {mg : Str → Option Value} {base : Heap} {f : Addr} {fd : FuncData} {T : Addr}
/-! ### _law_standing -/
abbrev s_law_standing : Stmt := topS 41
abbrev N_law_standing : List Str := ["purse", "town", "hands", "found", "hand", "held"]
abbrev P_law_standing : List Str := ["purse", "town"]
theorem sc_law_standing : FnScope N_law_standing P_law_standing (defScope s_law_standing) := ⟨rfl, rfl, rfl, by decide +kernel, rfl, by decide +kernel, by decide +kernel⟩

def sp_law_standing : Sp := fun vs H Q _ => ∃ (p : Addr) (b : Nat) (vt : V) (t : PyData), vs = [.ref p, vt] ∧ Purse H p b ∧ b ≤ 800000 ∧ DV (wl [p] H) vt t ∧ TownD t ∧ ∀ H' v d, StayT (wl [p] H) (wl [p] H') → Purse H' p (b + 100) → DV (wl [p] H') v d → StandD d → standingWrong t d = .none → Q v H'
theorem ok_law_standing (F : FnP K "_law_standing" s_law_standing f fd) (fr : Free mg) (c_law_draw : Cal P w K mg base "_law_draw" 2 P_law_draw sp_law_draw) (c_law_words : Cal P w K mg base "_law_words" 3 P_law_words sp_law_words) : FnOk P w K mg base (L2.CX P w) 4 f fd P_law_standing sp_law_standing := by
  refine F.ok sc_law_standing (fun vs H Q E h => ?_) (fun cdv A outer s H vs Q E hr h => ⟨_, PSs.nox (pss_cons (ps_set (i := 2) sc_law_standing.nd rfl (Or.inl rfl) (pe_F c_law_words (hr.mono (by omega)) (pa_cons (pv 0) (pa_cons (pe_callB call_lenD' (by rfl) (fr "len" (by decide)) (by decide +kernel) (pa_cons (pe_ix ix_D (pv 1) pe_int (fun _ _ => rfl)) pa_nil)) pa_nil))))
    (pss_cons (ps_set (i := 3) sc_law_standing.nd rfl (Or.inl rfl) (pe_lst pa_nil))
    (pss_cons (ps_for PassesOwn.never rfl (pi_list (pv 2)) (pg_name (i := 4) sc_law_standing.nd rfl (Or.inl rfl)) (pss_cons (ps_set (i := 5) sc_law_standing.nd rfl (Or.inl rfl) (pe_tup (pa_cons (pv 4) (pa_cons (pe_ix ix_D (pe_lst (pa_cons pe_int (pa_cons pe_int (pa_cons pe_int (pa_cons pe_int (pa_cons pe_int (pa_cons (pe_op op_pow pe_int pe_int) pa_nil))))))) (pe_F c_law_draw (hr.mono (by omega)) (pa_cons (pv 0) (pa_cons pe_int pa_nil))) (fun _ _ => rfl)) pa_nil))))
    (pss_one (ps_expr (pe_bm PySem.F.plainAttrs_list PySem.F.slot_list_append PySem.F.type_list_append mt_append (pv 3) (pa_cons (pe_ix ix_D (pe_lst (pa_cons (pv 5) (pa_cons (pv 5) (pa_cons (pv 5) (pa_cons (pv 5) (pa_cons (pe_tup pa_nil) pa_nil)))))) (pe_F c_law_draw (hr.mono (by omega)) (pa_cons (pv 0) (pa_cons pe_int pa_nil))) (fun _ _ => rfl)) pa_nil))))))
    (pss_one (ps_ret (pe_callTy call_tuple_of (by rfl) (fr "tuple" (by decide)) (by decide +kernel) (pa_cons (pv 3) pa_nil))))))), ?_⟩)
  · obtain ⟨p, b, vt, t, rfl, _⟩ := h; rfl
  · obtain ⟨p, b, vt, t, rfl, hp, hb, ht, ⟨hs, rs, rfl, hs8, _, _, _⟩, q⟩ := h
    have pm : p ∈ [p] := List.mem_singleton.mpr rfl
    refine ⟨_, rfl, _, rfl, _, _, 0, ht.out, rfl, rfl, fun v0 hv0 => ⟨_, _, hs.length, rfl, hv0, rfl, p, hs.length, b, rfl, hp, by omega, by omega, fun H2 an ns s2 hp2 nan han lns inns ndn => ?_⟩⟩
    have S2 : StayT (wl [p] H) (wl [p] H2) := wl_draw s2 pm
    have an_p : an ≠ p := hp.ne nan
    have han2 : wl [p] H2 an = some (.lst (ns.map V.str)) := by rw [wl_out (by simpa using an_p)]; exact han
    replace hp2 : Purse H2 p (b + 8) := hp2.mono (by omega)
    refine ⟨by show 0 ≤ sizeLine; decide, fun tn ntn => ?_⟩
    have tn_p : tn ≠ p := hp2.ne ntn
    have tn_an : tn ≠ an := fun z => by rw [z, han] at ntn; cases ntn
    have ptn : p ∈ [tn, p] := by simp
    have tntn : tn ∈ [tn, p] := by simp
    refine ⟨_, rfl, an, rfl, ⟨_, SqL.of (by rw [upd_ne tn_an.symm]; exact han)⟩, ?_⟩
    refine for_it (walk_list (xs := ns.map V.str)) (fun i σ G2 => ∃ (us : List V) (fs : List PyData) (v4 v5 : Option V), σ = [some (.ref p), some vt, some (.ref an), some (.ref tn), v4, v5] ∧ StayT (wl [p] H2) (wl [tn, p] G2) ∧ G2 tn = some (.lst us) ∧ DVs (wl [tn, p] G2) us fs ∧ fs.length = i ∧ (∀ d ∈ fs, HomeD d ∨ d = .tuple []) ∧ Purse G2 p (b + 8 + 2 * i) ∧ List.Sublist ((fs.filter fun d => !isUnit d).map entryName) (ns.take i)) ?h0 ?hG ?hs ?hd
    case h0 =>
      refine ⟨[], [], none, none, rfl, ?_, upd_same, .nil, rfl, (fun _ z => by cases z), hp2.upd tn_p, List.Sublist.refl _⟩
      rw [wl_upd_in tntn]; exact wl_more ntn
    case hG =>
      rintro i σ G2 hi ⟨us, fs, v4, v5, rfl, U, _⟩
      exact SqL.of (wl_some (U.same _ _ han2 fun _ z => nomatch z)).2
    case hs =>
      rintro i x σ _ G2 hi ⟨us, fs, v4, v5, rfl, U, htn, hfs, hfl, prf, hpG2, sub⟩ ⟨rfl, hx⟩
      have hi' : i < ns.length := by simpa using hi
      have hx' : x = .str ns[i] := by simpa [hi'] using hx.symm
      subst hx'
      have iw := inns _ (List.getElem_mem hi')
      have tk : ns.take (i + 1) = ns.take i ++ [ns[i]] := by rw [List.take_add_one, List.getElem?_eq_getElem hi']; rfl
      generalize ns[i] = nm at iw tk
      refine ⟨_, rfl, _, _, rfl, rfl, ⟨by decide, by decide, by decide⟩, by show 6 ≤ sizeLine; decide, fun ql nql => ?_⟩
      have ql_p : ql ≠ p := hpG2.ne nql
      have ql_tn : ql ≠ tn := fun z => by rw [z, htn] at nql; cases nql
      refine ⟨_, rfl, p, 6, _, rfl, hpG2.upd ql_p, by omega, by omega, by omega, fun G3 r3 t3 hpG3 hr3 => ?_⟩
      have T3 := (wl_alloc (ms := [tn, p]) nql).trans (wl_draw t3 ptn)
      have htn3 := drawn_keeps t3 tn_p (show upd G2 ql _ tn = some (.lst us) by rw [upd_ne ql_tn.symm]; exact htn)
      refine pick_int (l := [0, 0, 1, 2, 4, (10 : Int) ^ (6 : Int).toNat]) (drawn_keeps t3 ql_p upd_same) (by show 6 ≤ 1000; decide) hr3 fun j hj => ⟨by show 2 ≤ sizeLine; decide, fun tp ntp => ?_⟩
      obtain ⟨jn, rfl, jb⟩ : ∃ jn : Nat, j = jn ∧ jn ∈ coins := by
        have : ∀ j ∈ ([0, 0, 1, 2, 4, (10 : Int) ^ (6 : Int).toNat] : List Int), j = (j.toNat : Int) ∧ j.toNat ∈ coins := by decide
        exact ⟨j.toNat, this j hj⟩
      have tp_p : tp ≠ p := hpG3.ne ntp
      have tp_tn : tp ≠ tn := fun z => by rw [z, htn3] at ntp; cases ntp
      have hm : HomeD (.tuple [.str nm, .int jn]) := ⟨nm, iw, jn, jb, rfl⟩
      have dh : DV (wl [tn, p] (upd G3 tp (.tup [.str nm, .int jn]))) (.ref tp) (.tuple [.str nm, .int jn]) := dv_made ntp (by simp [tp_tn, tp_p]) (.two (dv_word iw) (.int _)) (by show 2 ≤ 1000; decide)
      have htn4 : upd G3 tp (.tup [.str nm, .int jn]) tn = some (.lst us) := by rw [upd_ne tp_tn.symm]; exact htn3
      have hpG4 := hpG3.upd (o := .tup [.str nm, .int jn]) tp_p
      have T4 := T3.trans (wl_alloc (ms := [tn, p]) (o := .tup [.str nm, .int jn]) ntp)
      have hfs4 := hfs.stay T4
      have U4 := U.trans T4
      generalize upd G3 tp (.tup [.str nm, .int jn]) = G4 at dh htn4 hpG4 hfs4 U4
      refine ⟨_, rfl, tyV_lst htn4, _, rfl, _, rfl, _, rfl, _, rfl, by show 0 ≤ sizeLine; decide, fun tu ntu => ⟨by show 5 ≤ sizeLine; decide, fun qm nqm => ?_⟩⟩
      have tu_p : tu ≠ p := hpG4.ne ntu
      have tu_tn : tu ≠ tn := fun z => by rw [z, htn4] at ntu; cases ntu
      have du : DV (wl [tn, p] (upd G4 tu (.tup []))) (.ref tu) (.tuple []) := dv_made ntu (by simp [tu_tn, tu_p]) .nil (by show 0 ≤ 1000; decide)
      have T5 := wl_alloc (ms := [tn, p]) (o := .tup []) ntu
      have htn5 : upd G4 tu (.tup []) tn = some (.lst us) := by rw [upd_ne tu_tn.symm]; exact htn4
      have hpG5 := hpG4.upd (o := .tup []) tu_p
      have dh5 := dh.stay T5
      have hfs5 := hfs4.stay T5
      have U5 := U4.trans T5
      generalize upd G4 tu (.tup []) = G5 at du nqm htn5 hpG5 dh5 hfs5 U5
      have qm_p : qm ≠ p := hpG5.ne nqm
      have qm_tn : qm ≠ tn := fun z => by rw [z, htn5] at nqm; cases nqm
      refine ⟨_, rfl, p, 5, _, rfl, hpG5.upd qm_p, by omega, by omega, by omega, fun G6 r6 t6 hpG6 hr6 => ?_⟩
      have T6 := (wl_alloc (ms := [tn, p]) (o := .lst [.ref tp, .ref tp, .ref tp, .ref tp, .ref tu]) nqm).trans (wl_draw t6 ptn)
      have htn6 := drawn_keeps t6 tn_p (show upd G5 qm (.lst [.ref tp, .ref tp, .ref tp, .ref tp, .ref tu]) tn = some (.lst us) by rw [upd_ne qm_tn.symm]; exact htn5)
      have dh6 := dh5.stay T6
      have du6 := du.stay T6
      have lu : us.length < sizeLine := by
        have : us.length = fs.length := hfs.length
        exact Nat.lt_of_le_of_lt (show us.length ≤ 12 by omega) (by decide)
      refine pick_any (ds := [.tuple [.str nm, .int jn], .tuple [.str nm, .int jn], .tuple [.str nm, .int jn], .tuple [.str nm, .int jn], .tuple []]) (drawn_keeps t6 qm_p upd_same) (.cons dh6.out (.cons dh6.out (.cons dh6.out (.cons dh6.out (.one du6.out))))) (by show 5 ≤ 1000; decide) hr6 fun v e he hv => ⟨tn, us, v, rfl, rfl, htn6, lu, ?_⟩
      have pe : HomeD e ∨ e = .tuple [] := by
        simp at he
        rcases he with rfl | rfl
        · exact .inl hm
        · exact .inr rfl
      have dv := stand_wl (ms := [tn, p]) hv pe fun m hm => by
        simp at hm
        rcases hm with rfl | rfl
        · exact ⟨_, htn6⟩
        · obtain ⟨n1, n2, n3, e1, _⟩ := hpG6
          exact ⟨_, e1⟩
      refine ⟨us ++ [v], fs ++ [e], _, _, rfl, ?_, upd_same, ?_, by simp [hfl], all_snoc prf pe, (hpG6.upd tn_p).mono (by omega), ?_⟩
      · rw [wl_upd_in tntn]; exact U5.trans T6
      · rw [wl_upd_in tntn]; exact (hfs5.stay T6).snoc dv
      · rw [tk, List.filter_append, List.map_append]
        simp at he
        rcases he with rfl | rfl
        · exact sub.append (List.Sublist.refl _)
        · exact sub.append (List.nil_sublist _)
    case hd =>
      rintro σ G2 ⟨us, fs, v4, v5, rfl, U, htn, hfs, hfl, prf, hpG2, sub⟩
      rw [List.length_map] at hfl hpG2 sub
      rw [List.take_length] at sub
      refine ⟨_, rfl, tn, us, rfl, .inl ⟨SqL.of htn, fun tt ntt => ?_⟩⟩
      have tt_p : tt ≠ p := hpG2.ne ntt
      refine q _ _ _ (S2.trans (U.trans (wl_less.trans (wl_alloc ntt)))) ((hpG2.upd tt_p).mono (by omega)) (dv_made ntt (by simpa using tt_p) (hfs.stay wl_less) (by omega)) ⟨fs, rfl, by omega, prf⟩ ?_
      show (if fs.length = hs.length then badHand 0 [] fs else PyData.tuple [.str "standing"]) = PyData.none
      rw [if_pos (by omega)]
      refine badHand_ok fs 0 [] (fun d hd => ?_) (by simpa using sub.nodup ndn)
      rcases prf d hd with z | rfl
      · exact .inr (home_entry z)
      · exact .inl rfl
end
end WR
namespace WR
open PySem PySem.Spec PyProof.Rows L2
/-! ## sorted(list of (text, number)), alike texts with alike numbers -/
theorem countP_lt {α : Type} {p q : α → Bool} : ∀ {l : List α}, (∀ z ∈ l, p z = true → q z = true) → (∃ z ∈ l, q z = true ∧ p z = false) → l.countP p < l.countP q
  | [], _, ⟨_, h, _⟩ => by cases h
  | a :: l, h, ⟨z, hz, h1, h2⟩ => by
    have mono : l.countP p ≤ l.countP q := List.countP_mono_left fun z hz hp => h z (List.mem_cons_of_mem _ hz) hp
    rw [List.countP_cons, List.countP_cons]
    rcases List.mem_cons.mp hz with rfl | hz
    · rw [h1, h2]; simp; omega
    · have ih := countP_lt (fun z hz => h z (List.mem_cons_of_mem _ hz)) ⟨z, hz, h1, h2⟩
      have ha := h a List.mem_cons_self
      cases hp : p a with
      | false => cases hq : q a <;> simp <;> omega
      | true => rw [ha hp]; simp; omega
/-- how many texts come before -/
def rankS (l : List Str) (x : Str) : Int := ((l.countP fun z => decide (z.cps.toList < x.cps.toList) : Nat) : Int)
theorem rankS_lt {l : List Str} {x y : Str} (hx : x ∈ l) : decide (x.cps.toList < y.cps.toList) = decide (rankS l x < rankS l y) := by
  by_cases h : x.cps.toList < y.cps.toList
  · rw [decide_eq_true h, decide_eq_true]
    have := countP_lt (l := l) (p := fun z => decide (z.cps.toList < x.cps.toList)) (q := fun z => decide (z.cps.toList < y.cps.toList)) (fun z _ hz => decide_eq_true (List.lt_trans (of_decide_eq_true hz) h)) ⟨x, hx, decide_eq_true h, decide_eq_false (List.lt_irrefl _)⟩
    unfold rankS
    omega
  · rw [decide_eq_false h, decide_eq_false]
    have le : y.cps.toList ≤ x.cps.toList := List.not_lt.mp h
    have := List.countP_mono_left (l := l) (p := fun z => decide (z.cps.toList < y.cps.toList)) (q := fun z => decide (z.cps.toList < x.cps.toList)) fun z _ hz => decide_eq_true (Decidable.byContradiction fun n => absurd (of_decide_eq_true hz) (List.not_lt.mpr (List.le_trans le (List.not_lt.mp n))))
    unfold rankS
    omega
/-- v is the tuple (x, i) -/
def TP (h : Heap) (v : Value) (x : Str) (i : Int) : Prop := ∃ a t u, v = .ref a ∧ PyProof.Rows.IsTup h a #[.str x t, .int i u]
theorem TP.keeps {h h' : Heap} {v : Value} {x : Str} {i : Int} (p : TP h v x i) (k : ∀ b o, h.get? b = some o → o.cls = .type "tuple" → h'.get? b = some o) : TP h' v x i := by
  obtain ⟨a, t, u, e, o, ho, hc, hd⟩ := p
  exact ⟨a, t, u, e, o, k a o ho hc, hc, hd⟩
theorem tp_firsts {h : Heap} : ∀ vs : List Value, (∀ v ∈ vs, ∃ x i, TP h v x i) → ∃ fs, PySem.W.KatTups h vs fs ∧ fs.length = vs.length ∧ ∀ f ∈ fs, ∃ x t, f = Value.str x t
  | [], _ => ⟨[], True.intro, rfl, fun _ z => by cases z⟩
  | v :: vs, hv => by
    obtain ⟨fs, h1, h2, h3⟩ := tp_firsts vs fun u hu => hv u (List.mem_cons_of_mem _ hu)
    obtain ⟨x, i, a, t, u, e, o, ho, hc, n, hd⟩ := hv v List.mem_cons_self
    refine ⟨.str x t :: fs, ⟨⟨a, o, _, n, e, ho, hc, hd, rfl⟩, h1⟩, by simp [h2], fun f hf => ?_⟩
    rcases List.mem_cons.mp hf with rfl | hf
    · exact ⟨x, t, rfl⟩
    · exact h3 f hf
theorem kind_tp {prog : Program} {w : World} {A : Around} {E : Value → Shared → Prop} {s : Shared} {vs : List Value} {nm : Value → Str} {iv : Value → Int} (h2 : 2 ≤ vs.length) (hv : ∀ v ∈ vs, TP s.heap v (nm v) (iv v)) (alike : ∀ v ∈ vs, ∀ u ∈ vs, nm v = nm u → iv v = iv u)
    (Q : PyProof.Rows.SortKind → Shared → Prop) (h : ∀ κ, TS.Cmp prog w A s κ (PyProof.Rows.pairsOf vs) (fun v => rankS (vs.map nm) (nm v)) → Q κ s) : wpAny (model prog w) A (PyProof.Rows.keyKind' vs.toArray) Q E s := by
  obtain ⟨fs, h1, h3, h4⟩ := tp_firsts vs fun v hvv => ⟨_, _, hv v hvv⟩
  refine PySem.W.kat_kind (T := .type "str") h1 (by omega) (fun f hf => ?_) (by decide) (h _ ?_)
  · obtain ⟨x, t, rfl⟩ := h4 f hf
    exact PySem.W.Looks.of_pure rfl
  · intro x y hx hy Q E q
    have mem : ∀ z : PyProof.Rows.Keyed, z ∈ (PyProof.Rows.pairsOf vs).toList → z.1 ∈ vs := fun z hz => by
      rw [PyProof.Rows.pairsOf_toList] at hz
      exact (List.of_mem_zip (show (z.1, z.2) ∈ vs.zip vs from hz)).1
    have mx := mem x hx
    have my := mem y hy
    obtain ⟨a, t, u, ex, o, ho, hc, n, hd⟩ := hv _ mx
    obtain ⟨b, t2, u2, ey, o2, ho2, hc2, n2, hd2⟩ := hv _ my
    rw [ex, ey]
    refine PySem.W.kat_lt ho hd ho2 hd2 ?_
    rw [← rankS_lt (List.mem_map_of_mem mx)] at q
    refine PySem.W.kat_cons (wpAny_eqBool_str (PySem.W.kat_go (fun e => PySem.W.kat_yes ?_) fun e => PySem.W.kat_no (PyProof.Rows.oneLt_str q)))
    have e' := of_decide_eq_true e
    have ei := alike _ mx _ my e'
    refine PySem.W.kat_cons (wpAny_eqBool_int ?_)
    rw [show (iv x.1 == iv y.1) = true from by rw [ei]; simp]
    refine PySem.W.kat_yes (PySem.W.kat_nil ?_)
    rw [e', decide_eq_false (List.lt_irrefl _)] at q
    exact q
theorem sort_tp {prog : Program} {w : World} {A : Around} {E : Value → Shared → Prop} {s : Shared} {a : Addr} {vs : List Value} {n : Nat} {nm : Value → Str} {iv : Value → Int} {Pf : PySem.Fin → Shared → Prop} (ha : s.heap.get? a = some (PyProof.Rows.seqObj "list" vs.toArray n)) (h64 : vs.length < 64) (hv : ∀ v ∈ vs, TP s.heap v (nm v) (iv v)) (alike : ∀ v ∈ vs, ∀ u ∈ vs, nm v = nm u → iv v = iv u)
    (h : ∀ out : Array Value, out.toList.Perm vs → out.toList.Pairwise (fun u v => rankS (vs.map nm) (nm u) ≤ rankS (vs.map nm) (nm v)) → Pf (.done (.ret .none)) { heap := PyProof.Rows.sortedHeap s.heap a vs out, gens := s.gens, drawn := s.drawn, toks := s.toks, os := s.os }) :
    wpAny (model prog w) A (Builtin.«list.sort» { pos := [.ref a] }) Pf E s := by
  refine SK.plain_sort (r := fun v => rankS (vs.map nm) (nm v)) ha h64 (fun h2 Q hQ => ?_) (fun ps out e1 e2 e3 => ?_)
  · refine kind_tp (iv := iv) h2 (fun v hvv => (hv v hvv).keeps fun b o e hc => TS.midHeap_old (fun z => ?_) e) alike Q hQ
    rw [z, ha] at e
    cases e
    exact absurd hc (fun z : Value.type "list" = Value.type "tuple" => by simp at z)
  · obtain ⟨o1, o2⟩ := TS.out_rank (r := fun v => rankS (vs.map nm) (nm v)) e1 e2 e3
    exact h out o1 o2
theorem sorted_tp {prog : Program} {w : World} {A : Around} {E : Value → Shared → Prop} {s : Shared} {l : Addr} {vs : List Value} {nm : Value → Str} {iv : Value → Int} {Q : Value → Shared → Prop} (hl : s.heap.IsList l vs.toArray) (h64 : vs.length < 64) (hv : ∀ v ∈ vs, TP s.heap v (nm v) (iv v)) (alike : ∀ v ∈ vs, ∀ u ∈ vs, nm v = nm u → iv v = iv u)
    (h : ∀ out : Array Value, out.toList.Perm vs → out.toList.Pairwise (fun u v => rankS (vs.map nm) (nm u) ≤ rankS (vs.map nm) (nm v)) → Q (.ref (s.heap.objs.size + 1)) { heap := PyProof.Rows.sortedAll s.heap vs out, gens := s.gens, drawn := s.drawn, toks := s.toks, os := s.os }) :
    wpAny (model prog w) A (call (.builtin "sorted") [.ref l]) Q E s := by
  have sz : vs.length ≤ sizeLine := Nat.le_trans (Nat.le_of_lt h64) (by decide)
  refine Calls.call_function_entry PyProof.Rows.kind_sorted PyProof.Rows.plain_sorted PyProof.Rows.entry_sorted (PyProof.Rows.args_sorted1 (.ref l)) ?_
  refine wpAny_bind (show wpAny _ _ (pure ()) _ _ _ from wpAny_pure ?_)
  refine wpAny_bind (PyProof.Rows.collect_list hl ?_ sz)
  refine wpAny_bind (wpAny_newList ?_ sz)
  have hsz : ((s.heap.push (PyProof.Rows.seqObj "list" #[] 0)).update s.heap.objs.size (Obj.mapSeq fun x => x ++ vs.toArray)).objs.size = s.heap.objs.size + 1 := by rw [Heap.size_update, PyProof.Rows.size_push']
  have hoL : (((s.heap.push (PyProof.Rows.seqObj "list" #[] 0)).update s.heap.objs.size (Obj.mapSeq fun x => x ++ vs.toArray)).push (PyProof.Rows.seqObj "list" vs.toArray 0)).get? (s.heap.objs.size + 1) = some (PyProof.Rows.seqObj "list" vs.toArray 0) := by
    rw [← hsz]; exact Heap.get?_push_size _ rfl
  have keep : ∀ b o, s.heap.get? b = some o → (((s.heap.push (PyProof.Rows.seqObj "list" #[] 0)).update s.heap.objs.size (Obj.mapSeq fun x => x ++ vs.toArray)).push (PyProof.Rows.seqObj "list" vs.toArray 0)).get? b = some o := fun b o q => by
    have hlt := Heap.lt_size q
    rw [Heap.get?_push_ne _ b _ (by rw [hsz]; exact Nat.ne_of_lt (Nat.lt_succ_of_lt hlt)), Heap.get?_update_ne _ b _ _ (Nat.ne_of_lt hlt), Heap.get?_push_ne _ b _ (Nat.ne_of_lt hlt)]
    exact q
  simp only [hsz]
  refine wpAny_bind (wpAny_holding (wpAny_call_entry PyProof.Rows.slot_list_sort ⟨_, hoL, rfl⟩ PyProof.Rows.entry_list_sort ?_ (PyProof.Rows.args_list_sort _)))
  exact sort_tp (iv := iv) hoL h64 (fun v hvv => (hv v hvv).keeps fun b o e _ => keep b o e) alike fun out o1 o2 => ⟨.none, rfl, wpAny_pure ⟨_, rfl, h out o1 o2⟩⟩
/-- sorted(a), a list of tuples of a text and a number -/
def rSortedTP (K : PySem.W.Frag) : List V → Hp → VK → Prop := fun vs H Q => ∃ (a : Addr) (ts : List Addr) (nm : Addr → Str) (iv : Addr → Int), vs = [.ref a] ∧ SqL K H a (ts.map V.ref) ∧ ts.length < 64 ∧ (∀ t ∈ ts, H t = some (.tup [.str (nm t), .int (iv t)])) ∧ (∀ t ∈ ts, ∀ u ∈ ts, nm t = nm u → iv t = iv u) ∧
  ∀ (us : List Addr) (p : Addr), us.Perm ts → us.Pairwise (fun t u => ¬ (nm u).cps.toList < (nm t).cps.toList) → H p = none → Q (.ref p) (upd H p (.lst (us.map V.ref)))
theorem vals_refs {H : List Addr} : ∀ {ts : List Addr} {us : List Value}, Vals (ts.map V.ref) us → us = ts.map Value.ref
  | [], _, .nil => rfl
  | _ :: _, _, .cons h t => by
    rw [List.map_cons, ← vals_refs (H := []) t]
    exact congrArg (· :: _) (show _ = _ from h)
theorem refs_vals : ∀ {ts : List Addr}, Vals (ts.map V.ref) (ts.map Value.ref)
  | [] => .nil
  | _ :: _ => .cons rfl refs_vals
theorem cr_sortedTP {X : Cx} : CallR X (.builtin "sorted") (rSortedTP X.K) := by
  intro pins s σ H xs us Q I r h
  obtain ⟨a, ts, nm, iv, rfl, ha, h64, ht, al, q⟩ := h
  obtain ⟨u, rfl, ru⟩ := vals1 r
  cases (show u = Value.ref a from ru)
  obtain ⟨its, rv, pl, _⟩ := I.list ha
  have ei := vals_refs (H := []) rv
  subst ei
  let ad : Value → Addr := fun v => match v with
    | .ref a => a
    | _ => 0
  have tp : ∀ v ∈ ts.map Value.ref, TP s.heap v (nm (ad v)) (iv (ad v)) := fun v hv => by
    obtain ⟨t, htt, rfl⟩ := List.mem_map.mp hv
    obtain ⟨its2, rv2, pt2, _⟩ := I.tuple (SqT.of (ht t htt))
    obtain ⟨w1, w2, rfl, r1, r2⟩ := vals2 rv2
    obtain ⟨t1, rfl⟩ := (show ∃ t1, w1 = Value.str (nm t) t1 from r1)
    obtain ⟨t2, rfl⟩ := (show ∃ t2, w2 = Value.int (iv t) t2 from r2)
    exact ⟨t, t1, t2, rfl, pt2⟩
  refine sorted_tp (nm := fun v => nm (ad v)) (iv := fun v => iv (ad v)) pl.isList (by rw [List.length_map]; exact h64) tp (fun v hv u hu e => ?_) (fun out o1 o2 => ?_)
  · obtain ⟨t, htt, rfl⟩ := List.mem_map.mp hv
    obtain ⟨t2, ht2, rfl⟩ := List.mem_map.mp hu
    exact al t htt t2 ht2 e
  · obtain ⟨zs, ez, pz⟩ : ∃ zs : List Addr, out.toList = zs.map Value.ref ∧ zs.Perm ts := by
      refine ⟨out.toList.map ad, ?_, ?_⟩
      · have all : ∀ v ∈ out.toList, v = Value.ref (ad v) := fun v hv => by
          obtain ⟨t, _, rfl⟩ := List.mem_map.mp (o1.mem_iff.mp hv)
          rfl
        rw [List.map_map]
        exact ((List.map_congr_left fun v hv => (all v hv).symm).trans (List.map_id _)).symm
      · have := o1.map ad
        rw [List.map_map] at this
        exact this.trans (by rw [show (ad ∘ Value.ref) = _root_.id from rfl, List.map_id])
    obtain ⟨e, he⟩ := PyProof.Rows.sortedAll_at s.heap (ts.map Value.ref) out
    refine ⟨.ref (s.heap.objs.size + 1), _, I.laid (o := .lst (zs.map V.ref)) (fun b u e => PyProof.Rows.sortedAll_old e) (Nat.le_succ _) ?_, rfl, q zs _ pz ?_ (I.hok.fresh (Nat.le_succ _))⟩
    · have hl : zs.length < 64 := by rw [pz.length_eq]; exact h64
      refine ⟨Nat.le_trans (show (zs.map V.ref).length ≤ 64 by rw [List.length_map]; omega) (by decide), zs.map Value.ref, e, refs_vals, ?_⟩
      rw [he, ← ez]
    · rw [ez, List.pairwise_map] at o2
      refine o2.imp_of_mem fun {t u} mt mu le => ?_
      have mt2 := pz.mem_iff.mp mt
      have mu2 := pz.mem_iff.mp mu
      intro lt
      have k := rankS_lt (l := (ts.map Value.ref).map fun v => nm (ad v)) (x := nm u) (y := nm t) (by rw [List.map_map]; exact List.mem_map_of_mem (f := fun t => nm t) mu2)
      rw [decide_eq_true lt] at k
      have := of_decide_eq_true k.symm
      have le' : rankS ((ts.map Value.ref).map fun v => nm (ad v)) (nm t) ≤ rankS ((ts.map Value.ref).map fun v => nm (ad v)) (nm u) := le
      omega
end WR
namespace WR
open PySem PySem.Spec PyProof.Rows L2
/-! ## zip of two tuples in a comprehension -/
theorem walk_zipT {K : PySem.W.Frag} {a b : Addr} {xs ys : List V} {n : Nat} (hn : n = min xs.length ys.length) : L2.Walk (RZ.ItzT K a b) n (fun H => SqT K H a xs ∧ SqT K H b ys) (YPair (fun i => xs[i]?) (fun i => ys[i]?)) where
  goes := fun i H lt both => by
    have lx : i < xs.length := Nat.lt_of_lt_of_le lt (by rw [hn]; exact Nat.min_le_left _ _)
    have ly : i < ys.length := Nat.lt_of_lt_of_le lt (by rw [hn]; exact Nat.min_le_right _ _)
    exact ⟨_, _, _, _, both.1, both.2, List.getElem?_eq_getElem lx, List.getElem?_eq_getElem ly⟩
  stops := fun H both => by
    refine ⟨_, _, both.1, both.2, ?_⟩
    rcases Nat.le_total xs.length ys.length with le | le
    · exact .inl (by rw [hn, Nat.min_eq_left le]; exact Nat.le_refl _)
    · exact .inr (by rw [hn, Nat.min_eq_right le]; exact Nat.le_refl _)
  yields := fun i H told H' _ both turn => by
    obtain ⟨pr, one, other, e, fresh, laid, first, second⟩ := turn
    exact ⟨pr, one, other, e, fresh, laid, first _ both.1, second _ both.2⟩
theorem merge_new : ∀ (kvs : List (Key × V)) (acc : List (Key × V)), ((acc ++ kvs).map Prod.fst).Nodup → mergeK acc kvs = acc ++ kvs
  | [], acc, _ => by simp [mergeK]
  | kv :: r, acc, nd => by
    have e : mergeK acc (kv :: r) = mergeK (putK acc kv.1 kv.2) r := rfl
    have nv : valV acc kv.1 = none := by
      unfold valV
      rw [List.find?_eq_none.mpr fun x hx => ?_]
      · rfl
      · intro z
        have z2 : x.1 = kv.1 := of_decide_eq_true z
        rw [List.map_append, List.nodup_append] at nd
        exact nd.2.2 _ (List.mem_map_of_mem hx) _ (List.mem_map_of_mem List.mem_cons_self) z2
    rw [e, putK_new _ nv, merge_new r (acc ++ [(kv.1, kv.2)]) (by simpa using nd)]
    simp
theorem ltCps_lt : ∀ (a b : List Nat), ltCps a b = true → a < b
  | [], [], h => by cases h
  | [], b :: t, _ => List.Lex.nil
  | a :: r, [], h => by cases h
  | a :: r, b :: t, h => by
    have h2 : (decide (a < b) || (a == b && ltCps r t)) = true := h
    simp only [Bool.or_eq_true, Bool.and_eq_true, decide_eq_true_eq, beq_iff_eq] at h2
    rcases h2 with h2 | ⟨rfl, h2⟩
    · exact List.Lex.rel h2
    · exact List.Lex.cons (ltCps_lt r t h2)
theorem lists_sorted {l : List Str} (h : l.Pairwise fun a b => ¬ b.cps.toList < a.cps.toList) : sortedS l = true := sortedS_of_pairwise l (h.imp fun {a b} n => by
  cases e : ltCps b.cps.toList a.cps.toList with
  | false => rfl
  | true => exact absurd (ltCps_lt _ _ e) n)
end WR
namespace WR
open PySem PySem.Spec PyProof.Rows L2
open PySem.SeqAt
/-! ## x in a tuple of pairs of texts, x a tuple of any data -/
theorem dict_declines_str (l : Addr) (es : Array DictEntry) (n : Nat) (dd : Option Addr) (sl : Array (Option Value)) (b : Str) (u : Tok) :
    Meets (Builtin.«dict.__eq__» ⟨[.ref l, .str b u], []⟩) (fun _ R s => s.heap.get? l = some { cls := .type "dict", dict := dd, data := .dict es n, slots := sl } ∧ R (.ok (.ret .notImplemented)) s) :=
  .of_wp fun prog w A R s h => by
    obtain ⟨hp, g, d, tk, os⟩ := s
    obtain ⟨hl, h⟩ := h
    have f1 := PySem.F.sub_str_dict
    wp_walk using AutoSeq1.wpAny_loadPart' hl
    exact ⟨_, rfl, h⟩
theorem str_declines_dict (l : Addr) (es : Array DictEntry) (n : Nat) (dd : Option Addr) (sl : Array (Option Value)) (b : Str) (u : Tok) :
    Meets (Builtin.«str.__eq__» ⟨[.str b u, .ref l], []⟩) (fun _ R s => s.heap.get? l = some { cls := .type "dict", dict := dd, data := .dict es n, slots := sl } ∧ R (.ok (.ret .notImplemented)) s) :=
  .of_wp fun prog w A R s h => by
    obtain ⟨hp, g, d, tk, os⟩ := s
    obtain ⟨hl, h⟩ := h
    wp_walk using AutoSeq1.wpAny_loadPart' hl, AutoSeq1.wpAny_load hl
    exact ⟨_, rfl, h⟩
theorem rc_str_dict {A : Around} {s : Shared} {l : Addr} {es : Array DictEntry} {n : Nat} {dd : Option Addr} {sl : Array (Option Value)} (b : Str) (u : Tok)
    (hl : s.heap.get? l = some { cls := .type "dict", dict := dd, data := .dict es n, slots := sl }) (hu : A.units < cLine) : RcAt A s (.str b u) (.ref l) false := fun prog w E Q h => by
  have sub1 : isSubtype (.type "dict") (.type "str") = pure false := PySem.F.sub_dict_str
  exact rc_eq_decline_or (k := false) (typeIs_str s b u) ⟨_, hl, rfl⟩ (by decide) sub1 F.slot_str_eq PySem.F.slot_dict_eq_refl
    (fun _ hq => call_meets F.slot_str_eq (typeIs_str s b u) F.entry_str_eq (F.args_str_eq_2 _ _) (str_declines_dict l es n dd sl b u) ⟨hl, hq⟩)
    (fun _ hq => call_meets PySem.F.slot_dict_eq_refl ⟨_, hl, rfl⟩ PySem.F.entry_dict_eq (PySem.F.args_dict_eq_2 _ _) (dict_declines_str l es n dd sl b u) ⟨hl, hq⟩)
    (fun _ hq => wpAny_of_eq (rfl : isSame (.str b u) (.ref l) = pure false) hq) (.inr hu) h
theorem eq_str_dict {A : Around} {s : Shared} {l : Addr} {es : Array DictEntry} {n : Nat} {dd : Option Addr} {sl : Array (Option Value)} (b : Str) (u : Tok)
    (hl : s.heap.get? l = some { cls := .type "dict", dict := dd, data := .dict es n, slots := sl }) (hu : A.units < cLine) : EqAt A s (.str b u) (.ref l) false := fun prog w E Q h => by
  unfold eqBool
  refine wpAny_holding ?_
  refine wpAny_ite_split (fun hab => absurd (eq_of_beq hab) nofun) (fun _ => ?_)
  exact wpAny_bind (rc_str_dict b u hl hu prog w E _ (wpAny_truthy_bool h))
def strIs (x : Str) : PyData → Bool
  | .str z => x == z
  | _ => false
theorem eq_str_any {X : Cx} {pins : List (Addr × Obj)} {σ : L2.St} {H : Hp} {s : Shared} (I : Inv X pins σ H s) {A : Around} (hu : A.units < cLine) (x : Str) (t : Tok) : ∀ {y : V} {d : PyData} {v : Value}, DV H y d → RelV y v → EqAt A s (.str x t) v (strIs x d)
  | _, _, v, .non, r => by
    cases (show v = Value.none from r)
    exact EqAt.str_none x t
  | _, _, v, .bl b, r => by
    cases (show v = Value.bool b from r)
    exact EqAt.str_bool x t b
  | _, _, v, .int i, r => by
    obtain ⟨u, rfl⟩ := (show ∃ u, v = Value.int i u from r)
    exact EqAt.str_int x t i u
  | _, _, v, @DV.str _ z _ _, r => by
    obtain ⟨u, rfl⟩ := (show ∃ u, v = Value.str z u from r)
    exact EqAt.str_str x t z u
  | _, _, v, @DV.lst _ a xs ds e _ _, r => by
    cases (show v = Value.ref a from r)
    obtain ⟨its2, _, ⟨o, n, ho, hc, _, hdat⟩, _⟩ := I.list (SqL.of e)
    exact EqAt.str_list x t ⟨o, ho, hc, n, hdat⟩ hu
  | _, _, v, @DV.tup _ a xs ds e _ _, r => by
    cases (show v = Value.ref a from r)
    obtain ⟨its2, rv2, pt2, _⟩ := I.tuple (SqT.of e)
    exact EqAt.str_tuple x t pt2 hu
  | _, _, v, @DV.dct _ a e, r => by
    cases (show v = Value.ref a from r)
    obtain ⟨_, _, vs, _, o, es, ep, ho, hx, hdat, _⟩ := (show ObjOk X.prog X.w H s.heap a (.dK []) from I.hok a _ e)
    obtain ⟨oc, od, odt, osl⟩ := o
    obtain ⟨hc, _⟩ := hx
    simp only at hc hdat
    subst hc hdat
    exact eq_str_dict x t ho hu
/-- is it this pair of texts? -/
def isPairS (d : PyData) (p : Str × Str) : Bool := match d with
  | .tuple [a, b] => strIs p.1 a && strIs p.2 b
  | _ => false
theorem vals_at : ∀ {xs : List V} {us : List Value} {j : Nat} {u : Value}, Vals xs us → us[j]? = some u → ∃ v, xs[j]? = some v ∧ RelV v u
  | _, _, 0, _, .cons h _, e => by cases e; exact ⟨_, rfl, h⟩
  | _, _, j + 1, _, .cons _ t, e => by
    obtain ⟨v, e2, r⟩ := vals_at (j := j) t (by simpa using e)
    exact ⟨v, by simpa using e2, r⟩
  | _, _, 0, _, .nil, e => by cases e
  | _, _, _ + 1, _, .nil, e => by cases e
theorem vals_len : ∀ {xs : List V} {us : List Value}, Vals xs us → us.length = xs.length
  | _, _, .nil => rfl
  | _, _, .cons _ t => by simp [vals_len t]
theorem strIs_str (x y : Str) : strIs x (.str y) = (x == y) := rfl
def pairAt (ds : List PyData) (a b : Str) (j : Nat) : Bool := match ds[j]? with
  | some d => if j = 0 then strIs a d else strIs b d
  | none => false
/-- an item of the roads beside the tuple that is asked -/
theorem eq_pair_any {X : Cx} {pins : List (Addr × Obj)} {σ : L2.St} {H : Hp} {s : Shared} (I : Inv X pins σ H s) {A : Around} (hu : A.units + 1 < cLine) {a b : Str} {y x : V} {ds : List PyData} {v u : Value} (hy : DV H y (.tuple [.str a, .str b])) (hx : DV H x (.tuple ds)) (ry : RelV y v) (rx : RelV x u) :
    EqAt A s v u (isPairS (.tuple ds) (a, b)) := by
  obtain ⟨l, ys, rfl, hl, hys, _⟩ := dv_tup hy
  obtain ⟨m, xs, rfl, hm, hxs, _⟩ := dv_tup hx
  cases (show v = Value.ref l from ry)
  cases (show u = Value.ref m from rx)
  have two : ∃ va vb, ys = [va, vb] ∧ va = .str a ∧ vb = .str b := by
    cases hys with
    | @cons va vs1 d1 ds1 hva t1 =>
    cases t1 with
    | @cons vb vs2 d2 ds2 hvb t2 =>
    cases t2
    exact ⟨_, _, rfl, dv_str hva, dv_str hvb⟩
  obtain ⟨_, _, rfl, rfl, rfl⟩ := two
  by_cases elm : l = m
  · subst elm
    rw [hl] at hm
    cases hm
    cases hxs with
    | @cons va vs1 d1 ds1 hva t1 =>
    cases t1 with
    | @cons vb vs2 d2 ds2 hvb t2 =>
    cases t2
    have e1 : d1 = .str a := by cases hva; rfl
    have e2 : d2 = .str b := by cases hvb; rfl
    subst e1 e2
    have : isPairS (.tuple [.str a, .str b]) (a, b) = true := by simp [isPairS, strIs]
    rw [this]
    exact EqAt.same _
  obtain ⟨its1, rv1, pt1, _⟩ := I.tuple (SqT.of hl)
  obtain ⟨its2, rv2, pt2, _⟩ := I.tuple (SqT.of hm)
  obtain ⟨w1, w2, rfl, r1, r2⟩ := vals2 rv1
  obtain ⟨t1, rfl⟩ := (show ∃ t, w1 = Value.str a t from r1)
  obtain ⟨t2, rfl⟩ := (show ∃ t, w2 = Value.str b t from r2)
  have lx := vals_len rv2
  have ld := hxs.length
  have rc := RcAt.tuples (A := A) (e := pairAt ds a b) pt1 pt2 (by omega) (fun j h1 h2 => by
    have h2' : j < its2.length := by simpa using h2
    have h1' : j < 2 := by simpa using h1
    obtain ⟨v, hv, r⟩ := vals_at rv2 (List.getElem?_eq_getElem h2')
    obtain ⟨d, hd, hvd⟩ := hxs.get hv
    have ee : pairAt ds a b j = if j = 0 then strIs a d else strIs b d := by unfold pairAt; rw [hd]
    have g2 : its2.toArray[j] = its2[j] := by simp
    rw [ee, g2]
    match j, h1' with
    | 0, _ => exact eq_str_any I (A := A.in1) (show A.units + 1 < cLine from hu) a t1 hvd r
    | 1, _ => exact eq_str_any I (A := A.in1) (show A.units + 1 < cLine from hu) b t2 hvd r)
  refine EqAt.of_refs elm ?_
  refine (?_ : _ = isPairS (.tuple ds) (a, b)) ▸ rc
  show ((List.range (min 2 its2.toArray.size)).all (pairAt ds a b) && 2 == its2.toArray.size) = _
  have sz : its2.toArray.size = ds.length := by simp [lx, ld]
  rw [sz]
  match ds, ld with
  | [], _ => rfl
  | [d], _ => simp [isPairS]
  | [d1, d2], _ => simp [isPairS, pairAt, List.range_succ]
  | d1 :: d2 :: d3 :: r, _ => simp [isPairS]
/-- x in a tuple of pairs, x a tuple -/
def rInP : R2 := fun x y H Q => ∃ (ds : List PyData) (ps : List (Str × Str)), DV H x (.tuple ds) ∧ DV H y (.tuple (ps.map pairOf)) ∧ Q (.bl (ps.any fun p => isPairS (.tuple ds) p)) H
theorem op_inP {X : Cx} (hu : X.A.units + 65 < cLine) : OpR X (compareOp .In) rInP := by
  intro pins s σ H x y v u Q I rx ry h
  obtain ⟨ds, ps, hx, hy, q⟩ := h
  obtain ⟨b, ys, rfl, hb, hys, _⟩ := dv_tup hy
  cases (show u = Value.ref b from ry)
  obtain ⟨its, rv, pt, _⟩ := I.tuple (SqT.of hb)
  have ly := hys.length
  have li := vals_len rv
  have at_ : ∀ (j : Nat) (z : Value), its[j]? = some z → ∃ p : Str × Str, ps[j]? = some p ∧ ∃ yv, ys[j]? = some yv ∧ RelV yv z ∧ DV H yv (pairOf p) := fun j z hz => by
    obtain ⟨yv, hyv, r⟩ := vals_at rv hz
    obtain ⟨d, hd, hdv⟩ := hys.get hyv
    rw [List.getElem?_map] at hd
    cases hp : ps[j]? with
    | none => rw [hp] at hd; cases hd
    | some p =>
      rw [hp] at hd
      cases hd
      exact ⟨p, rfl, yv, hyv, r, hdv⟩
  let e : Value → Bool := fun z => @decide (∃ (j : Nat) (p : Str × Str), its[j]? = some z ∧ ps[j]? = some p ∧ isPairS (.tuple ds) p = true) (Classical.propDecidable _)
  have uniq : ∀ (j : Nat) (z : Value) (p : Str × Str), its[j]? = some z → ps[j]? = some p → e z = isPairS (.tuple ds) p := fun j z p hz hp => by
    obtain ⟨p0, hp0, yv, _, r, hdv⟩ := at_ j z hz
    rw [hp] at hp0
    cases hp0
    by_cases c : isPairS (.tuple ds) p = true
    · rw [c]; exact @decide_eq_true _ (Classical.propDecidable _) ⟨j, p, hz, hp, c⟩
    · rw [Bool.eq_false_iff.mpr c]
      refine @decide_eq_false _ (Classical.propDecidable _) ?_
      rintro ⟨j2, p2, hz2, hp2, c2⟩
      obtain ⟨p3, hp3, yv2, _, r2, hdv2⟩ := at_ j2 z hz2
      rw [hp2] at hp3
      cases hp3
      obtain ⟨a1, us1, rfl, h1, hu1, _⟩ := dv_tup hdv
      obtain ⟨a2, us2, rfl, h2, hu2, _⟩ := dv_tup hdv2
      cases (show z = Value.ref a1 from r)
      cases (show Value.ref a1 = Value.ref a2 from r2)
      rw [h1] at h2
      cases h2
      have : p = p2 := by
        obtain ⟨a, b⟩ := p
        obtain ⟨a', b'⟩ := p2
        cases hu1 with
        | @cons va vs1 d1 ds1 hva t1 =>
        cases t1 with
        | @cons vb vs2 d2 ds2 hvb t2 =>
        cases t2
        cases hu2 with
        | @cons _ _ _ _ hva2 t3 =>
        cases t3 with
        | @cons _ _ _ _ hvb2 t4 =>
        have e1 := (dv_str hva).symm.trans (dv_str hva2)
        have e2 := (dv_str hvb).symm.trans (dv_str hvb2)
        cases e1
        cases e2
        rfl
      rw [this] at c
      exact c c2
  refine in_tupleAt e pt (fun z hz => ?_) ?_
  · obtain ⟨j, hj⟩ := List.getElem?_of_mem (by simpa using hz : z ∈ its)
    obtain ⟨p, hp, yv, _, r, hdv⟩ := at_ j z hj
    rw [uniq j z p hj hp]
    exact eq_pair_any I (A := X.A.in1) (show X.A.units + 1 + 1 < cLine by omega) hdv hx r rx
  · have all : its.toArray.any e = ps.any fun p => isPairS (.tuple ds) p := by
      rw [List.any_toArray]
      rw [Bool.eq_iff_iff, List.any_eq_true, List.any_eq_true]
      constructor
      · rintro ⟨z, hz, c⟩
        obtain ⟨j, hj⟩ := List.getElem?_of_mem hz
        obtain ⟨p, hp, _⟩ := at_ j z hj
        rw [uniq j z p hj hp] at c
        exact ⟨p, List.mem_of_getElem? hp, c⟩
      · rintro ⟨p, hp, c⟩
        obtain ⟨j, hj⟩ := List.getElem?_of_mem hp
        have jl : j < its.length := by
          rw [li, ly, List.length_map]
          exact (List.getElem?_eq_some_iff.mp hj).1
        have hz := List.getElem?_eq_getElem jl
        exact ⟨its[j], List.getElem_mem jl, by rw [uniq j _ p hz hj]; exact c⟩
    rw [all]
    exact ⟨.bl _, H, I, rfl, q⟩
def rNotInP : R2 := fun x y H Q => ∃ (ds : List PyData) (ps : List (Str × Str)), DV H x (.tuple ds) ∧ DV H y (.tuple (ps.map pairOf)) ∧ Q (.bl (!ps.any fun p => isPairS (.tuple ds) p)) H
theorem op_notInP {X : Cx} (hu : X.A.units + 65 < cLine) : OpR X (compareOp .NotIn) rNotInP := by
  intro pins s σ H x y v u Q I rx ry h
  obtain ⟨ds, ps, hx, hy, q⟩ := h
  obtain ⟨b, ys, rfl, hb, hys, _⟩ := dv_tup hy
  cases (show u = Value.ref b from ry)
  obtain ⟨its, rv, pt, _⟩ := I.tuple (SqT.of hb)
  have ly := hys.length
  have li := vals_len rv
  have at_ : ∀ (j : Nat) (z : Value), its[j]? = some z → ∃ p : Str × Str, ps[j]? = some p ∧ ∃ yv, ys[j]? = some yv ∧ RelV yv z ∧ DV H yv (pairOf p) := fun j z hz => by
    obtain ⟨yv, hyv, r⟩ := vals_at rv hz
    obtain ⟨d, hd, hdv⟩ := hys.get hyv
    rw [List.getElem?_map] at hd
    cases hp : ps[j]? with
    | none => rw [hp] at hd; cases hd
    | some p =>
      rw [hp] at hd
      cases hd
      exact ⟨p, rfl, yv, hyv, r, hdv⟩
  let e : Value → Bool := fun z => @decide (∃ (j : Nat) (p : Str × Str), its[j]? = some z ∧ ps[j]? = some p ∧ isPairS (.tuple ds) p = true) (Classical.propDecidable _)
  have uniq : ∀ (j : Nat) (z : Value) (p : Str × Str), its[j]? = some z → ps[j]? = some p → e z = isPairS (.tuple ds) p := fun j z p hz hp => by
    obtain ⟨p0, hp0, yv, _, r, hdv⟩ := at_ j z hz
    rw [hp] at hp0
    cases hp0
    by_cases c : isPairS (.tuple ds) p = true
    · rw [c]; exact @decide_eq_true _ (Classical.propDecidable _) ⟨j, p, hz, hp, c⟩
    · rw [Bool.eq_false_iff.mpr c]
      refine @decide_eq_false _ (Classical.propDecidable _) ?_
      rintro ⟨j2, p2, hz2, hp2, c2⟩
      obtain ⟨p3, hp3, yv2, _, r2, hdv2⟩ := at_ j2 z hz2
      rw [hp2] at hp3
      cases hp3
      obtain ⟨a1, us1, rfl, h1, hu1, _⟩ := dv_tup hdv
      obtain ⟨a2, us2, rfl, h2, hu2, _⟩ := dv_tup hdv2
      cases (show z = Value.ref a1 from r)
      cases (show Value.ref a1 = Value.ref a2 from r2)
      rw [h1] at h2
      cases h2
      have : p = p2 := by
        obtain ⟨a, b⟩ := p
        obtain ⟨a', b'⟩ := p2
        cases hu1 with
        | @cons va vs1 d1 ds1 hva t1 =>
        cases t1 with
        | @cons vb vs2 d2 ds2 hvb t2 =>
        cases t2
        cases hu2 with
        | @cons _ _ _ _ hva2 t3 =>
        cases t3 with
        | @cons _ _ _ _ hvb2 t4 =>
        have e1 := (dv_str hva).symm.trans (dv_str hva2)
        have e2 := (dv_str hvb).symm.trans (dv_str hvb2)
        cases e1
        cases e2
        rfl
      rw [this] at c
      exact c c2
  refine notIn_tupleAt e pt (fun z hz => ?_) ?_
  · obtain ⟨j, hj⟩ := List.getElem?_of_mem (by simpa using hz : z ∈ its)
    obtain ⟨p, hp, yv, _, r, hdv⟩ := at_ j z hj
    rw [uniq j z p hj hp]
    exact eq_pair_any I (A := X.A.in1) (show X.A.units + 1 + 1 < cLine by omega) hdv hx r rx
  · have all : its.toArray.any e = ps.any fun p => isPairS (.tuple ds) p := by
      rw [List.any_toArray]
      rw [Bool.eq_iff_iff, List.any_eq_true, List.any_eq_true]
      constructor
      · rintro ⟨z, hz, c⟩
        obtain ⟨j, hj⟩ := List.getElem?_of_mem hz
        obtain ⟨p, hp, _⟩ := at_ j z hj
        rw [uniq j z p hj hp] at c
        exact ⟨p, List.mem_of_getElem? hp, c⟩
      · rintro ⟨p, hp, c⟩
        obtain ⟨j, hj⟩ := List.getElem?_of_mem hp
        have jl : j < its.length := by
          rw [li, ly, List.length_map]
          exact (List.getElem?_eq_some_iff.mp hj).1
        have hz := List.getElem?_eq_getElem jl
        exact ⟨its[j], List.getElem_mem jl, by rw [uniq j _ p hz hj]; exact c⟩
    rw [all]
    exact ⟨.bl _, H, I, rfl, q⟩
end WR
namespace WR
open PySem PySem.Spec PyProof.Rows L2
open PySem.SeqAt
/-! ## Lists of the same values are equal -/
def okV : V → Bool
  | .byt _ => false
  | .flt _ => false
  | .ty _ => false
  | _ => true
theorem eq_same_v {A : Around} {s : Shared} : ∀ {x : V} {u v : Value}, okV x = true → RelV x u → RelV x v → EqAt A s u v true
  | .non, u, v, _, ru, rv => by cases (show u = Value.none from ru); cases (show v = Value.none from rv); exact EqAt.same _
  | .bl b, u, v, _, ru, rv => by cases (show u = Value.bool b from ru); cases (show v = Value.bool b from rv); exact EqAt.same _
  | .int i, u, v, _, ru, rv => by
    obtain ⟨t, rfl⟩ := (show ∃ t, u = Value.int i t from ru)
    obtain ⟨t2, rfl⟩ := (show ∃ t, v = Value.int i t from rv)
    have e := EqAt.int_int (A := A) (s := s) i t i t2
    rwa [beq_self_eq_true] at e
  | .str x, u, v, _, ru, rv => by
    obtain ⟨t, rfl⟩ := (show ∃ t, u = Value.str x t from ru)
    obtain ⟨t2, rfl⟩ := (show ∃ t, v = Value.str x t from rv)
    have e := EqAt.str_str (A := A) (s := s) x t x t2
    rwa [beq_self_eq_true] at e
  | .ref a, u, v, _, ru, rv => by cases (show u = Value.ref a from ru); cases (show v = Value.ref a from rv); exact EqAt.same _
  | .byt _, _, _, h, _, _ => by cases h
  | .flt _, _, _, h, _, _ => by cases h
  | .ty _, _, _, h, _, _ => by cases h
def rSameL (neg : Bool) : R2 := fun x y H Q => ∃ (a b : Addr) (xs : List V), x = .ref a ∧ y = .ref b ∧ H a = some (.lst xs) ∧ H b = some (.lst xs) ∧ (∀ v ∈ xs, okV v = true) ∧ Q (.bl (!neg)) H
theorem rc_same {X : Cx} {pins : List (Addr × Obj)} {σ : L2.St} {H : Hp} {s : Shared} (I : Inv X pins σ H s) {A : Around} (hu : A.units < cLine) {a b : Addr} {xs : List V} (ha : H a = some (.lst xs)) (hb : H b = some (.lst xs)) (ok : ∀ v ∈ xs, okV v = true) : RcAt A s (.ref a) (.ref b) true := by
  obtain ⟨its1, rv1, ⟨o1, n1, ho1, hc1, _, hd1⟩, _⟩ := I.list (SqL.of ha)
  obtain ⟨its2, rv2, ⟨o2, n2, ho2, hc2, _, hd2⟩, _⟩ := I.list (SqL.of hb)
  have l1 := vals_len rv1
  have l2 := vals_len rv2
  have rc := RcAt.lists (A := A) (e := fun _ => true) (items := its1.toArray) (items2 := its2.toArray) ⟨o1, ho1, hc1, n1, hd1⟩ ⟨o2, ho2, hc2, n2, hd2⟩ (by simp [l1, l2]) hu (fun j h1 h2 => by
    have h1' : j < its1.length := by simpa using h1
    have h2' : j < its2.length := by simpa using h2
    obtain ⟨v, hv, r⟩ := vals_at rv1 (List.getElem?_eq_getElem h1')
    obtain ⟨v2, hv2, r2⟩ := vals_at rv2 (List.getElem?_eq_getElem h2')
    rw [hv] at hv2
    cases hv2
    have g1 : its1.toArray[j] = its1[j] := by simp
    have g2 : its2.toArray[j] = its2[j] := by simp
    rw [g1, g2]
    exact eq_same_v (ok v (List.mem_of_getElem? hv)) r r2)
  have e : ((List.range its1.toArray.size).all fun _ => true) = true := by simp
  rwa [e] at rc
theorem op_eqSame {X : Cx} (hu : X.A.units < cLine) : OpR X (compareOp .Eq) (rSameL false) := by
  intro pins s σ H x y v u Q I rx ry h
  obtain ⟨a, b, xs, rfl, rfl, ha, hb, ok, q⟩ := h
  cases (show v = Value.ref a from rx)
  cases (show u = Value.ref b from ry)
  exact rc_same I hu ha hb ok X.prog X.w X.xe _ ⟨.bl true, H, I, rfl, q⟩
theorem rcne_same {X : Cx} {pins : List (Addr × Obj)} {σ : L2.St} {H : Hp} {s : Shared} (I : Inv X pins σ H s) {A : Around} (hu : A.units < cLine) {a b : Addr} {xs : List V} (ha : H a = some (.lst xs)) (hb : H b = some (.lst xs)) (ok : ∀ v ∈ xs, okV v = true) : RcNeAt A s (.ref a) (.ref b) false := by
  obtain ⟨its1, rv1, ⟨o1, n1, ho1, hc1, _, hd1⟩, _⟩ := I.list (SqL.of ha)
  obtain ⟨its2, rv2, ⟨o2, n2, ho2, hc2, _, hd2⟩, _⟩ := I.list (SqL.of hb)
  have l1 := vals_len rv1
  have l2 := vals_len rv2
  have rc := RcNeAt.lists (A := A) (e := fun _ => true) (items := its1.toArray) (items2 := its2.toArray) ⟨o1, ho1, hc1, n1, hd1⟩ ⟨o2, ho2, hc2, n2, hd2⟩ (by simp [l1, l2]) hu (fun j h1 h2 => by
    have h1' : j < its1.length := by simpa using h1
    have h2' : j < its2.length := by simpa using h2
    obtain ⟨v, hv, r⟩ := vals_at rv1 (List.getElem?_eq_getElem h1')
    obtain ⟨v2, hv2, r2⟩ := vals_at rv2 (List.getElem?_eq_getElem h2')
    rw [hv] at hv2
    cases hv2
    have g1 : its1.toArray[j] = its1[j] := by simp
    have g2 : its2.toArray[j] = its2[j] := by simp
    rw [g1, g2]
    exact eq_same_v (ok v (List.mem_of_getElem? hv)) r r2)
  have e : (!((List.range its1.toArray.size).all fun _ => true)) = false := by simp
  rwa [e] at rc
theorem op_neSame {X : Cx} (hu : X.A.units < cLine) : OpR X (compareOp .NotEq) (rSameL true) := by
  intro pins s σ H x y v u Q I rx ry h
  obtain ⟨a, b, xs, rfl, rfl, ha, hb, ok, q⟩ := h
  cases (show v = Value.ref a from rx)
  cases (show u = Value.ref b from ry)
  exact rcne_same I hu ha hb ok X.prog X.w X.xe _ ⟨.bl false, H, I, rfl, q⟩
end WR
namespace WR
open PySem PySem.Spec PyProof.Rows L2
/-! ## t[::-1], t a tuple of one, two or three -/
theorem sliceApplied_rev1 {prog : Program} {w : World} {A : Around} {E : Value → Shared → Prop} {s : Shared} {sl : Addr} {vs : Value} {Q : Int × Int × Nat → Shared → Prop} (hs : s.heap.IsSliceOf sl .none .none vs) (ps : IsPart vs (some (-1)))
    (h : Q (0, -1, 1) s) : wpAny (model prog w) A (Builtin.Slice.sliceApplied (.ref sl) (pure 1)) Q E s := by
  obtain ⟨os, hos, hcs, hds⟩ := hs
  unfold Builtin.Slice.sliceApplied Builtin.Slice.sliceFields
  refine wpAny_bind (wpAny_bind (wpAny_field hos hds rfl (wpAny_bind (wpAny_field hos hds rfl (wpAny_bind (wpAny_field hos hds rfl (wpAny_pure ?_)))))))
  refine wpAny_bind (HT.slicePart_ ps ?_)
  rw [if_neg (by decide)]
  refine wpAny_bind (PyProof.Rows.slicePart_none (wpAny_bind (PyProof.Rows.slicePart_none (wpAny_bind (wpAny_pure ?_)))))
  exact wpAny_pure h
theorem getItem_rev1 {prog : Program} {w : World} {A : Around} {E : Value → Shared → Prop} {s : Shared} {t sl : Addr} {x vs : Value} {Q : Value → Shared → Prop} (ht : PyProof.Rows.IsTup s.heap t #[x]) (hs : s.heap.IsSliceOf sl .none .none vs) (ps : IsPart vs (some (-1)))
    (h : Q (.ref s.heap.objs.size) { heap := s.heap.push { cls := .type "tuple", data := .seq #[x] }, gens := s.gens, drawn := s.drawn, toks := s.toks, os := s.os }) : wpAny (model prog w) A (getItem (.ref t) (.ref sl)) Q E s := by
  have hTs : s.TypeIs (.ref sl) "slice" := by
    obtain ⟨os, hos, hcs, hds⟩ := hs
    exact ⟨os, hos, hcs⟩
  refine wpAny_holding (wpAny_bind (wpAny_sequenceKey ht.typeIs (by decide) (wpAny_bind (wpAny_callSpecial?_slot ht.typeIs PyProof.Rows.slot_tuple_getitem (wpAny_call_entry PyProof.Rows.slot_tuple_getitem ht.typeIs PyProof.Rows.entry_tuple_getitem ?_ (PyProof.Rows.args_tuple_getitem ..))))))
  refine wpAny_bind (show wpAny _ _ (pure ((Value.ref t), [Value.ref sl])) _ _ _ from wpAny_pure ?_)
  refine wpAny_bind (PyProof.Rows.tupleItemsOf_ ht (wpAny_bind (wpAny_typeOf hTs ?_)))
  rw [if_pos (by decide)]
  refine wpAny_bind (sliceApplied_rev1 hs ps ?_)
  refine wpAny_bind (wpAny_newObj_type ?_ (by show 1 ≤ sizeLine; decide))
  exact wpAny_pure ⟨_, rfl, wpAny_pure h⟩
theorem sliceApplied_rev3 {prog : Program} {w : World} {A : Around} {E : Value → Shared → Prop} {s : Shared} {sl : Addr} {vs : Value} {Q : Int × Int × Nat → Shared → Prop} (hs : s.heap.IsSliceOf sl .none .none vs) (ps : IsPart vs (some (-1)))
    (h : Q (2, -1, 3) s) : wpAny (model prog w) A (Builtin.Slice.sliceApplied (.ref sl) (pure 3)) Q E s := by
  obtain ⟨os, hos, hcs, hds⟩ := hs
  unfold Builtin.Slice.sliceApplied Builtin.Slice.sliceFields
  refine wpAny_bind (wpAny_bind (wpAny_field hos hds rfl (wpAny_bind (wpAny_field hos hds rfl (wpAny_bind (wpAny_field hos hds rfl (wpAny_pure ?_)))))))
  refine wpAny_bind (HT.slicePart_ ps ?_)
  rw [if_neg (by decide)]
  refine wpAny_bind (PyProof.Rows.slicePart_none (wpAny_bind (PyProof.Rows.slicePart_none (wpAny_bind (wpAny_pure ?_)))))
  exact wpAny_pure h
theorem getItem_rev3 {prog : Program} {w : World} {A : Around} {E : Value → Shared → Prop} {s : Shared} {t sl : Addr} {x y z vs : Value} {Q : Value → Shared → Prop} (ht : PyProof.Rows.IsTup s.heap t #[x, y, z]) (hs : s.heap.IsSliceOf sl .none .none vs) (ps : IsPart vs (some (-1)))
    (h : Q (.ref s.heap.objs.size) { heap := s.heap.push { cls := .type "tuple", data := .seq #[z, y, x] }, gens := s.gens, drawn := s.drawn, toks := s.toks, os := s.os }) : wpAny (model prog w) A (getItem (.ref t) (.ref sl)) Q E s := by
  have hTs : s.TypeIs (.ref sl) "slice" := by
    obtain ⟨os, hos, hcs, hds⟩ := hs
    exact ⟨os, hos, hcs⟩
  refine wpAny_holding (wpAny_bind (wpAny_sequenceKey ht.typeIs (by decide) (wpAny_bind (wpAny_callSpecial?_slot ht.typeIs PyProof.Rows.slot_tuple_getitem (wpAny_call_entry PyProof.Rows.slot_tuple_getitem ht.typeIs PyProof.Rows.entry_tuple_getitem ?_ (PyProof.Rows.args_tuple_getitem ..))))))
  refine wpAny_bind (show wpAny _ _ (pure ((Value.ref t), [Value.ref sl])) _ _ _ from wpAny_pure ?_)
  refine wpAny_bind (PyProof.Rows.tupleItemsOf_ ht (wpAny_bind (wpAny_typeOf hTs ?_)))
  rw [if_pos (by decide)]
  refine wpAny_bind (sliceApplied_rev3 hs ps ?_)
  refine wpAny_bind (wpAny_newObj_type ?_ (by show 3 ≤ sizeLine; decide))
  exact wpAny_pure ⟨_, rfl, wpAny_pure h⟩
/-- t[::-1], one to three items -/
def tRev3 (K : PySem.W.Frag) (te : TE) : TE := fun σ H Q => te σ H fun x H1 => ∃ (a : Addr) (xs : List V), x = .ref a ∧ SqT K H1 a xs ∧ 1 ≤ xs.length ∧ xs.length ≤ 3 ∧ ∀ p, H1 p = none → Q (.ref p) (upd H1 p (.tup xs.reverse))
theorem pe_rev3 {X : Cx} {e : Expr} {te : TE} {k : Nat} {p1 p2 p3 pos : Pos} (he : PE X e te) : PE X (.Subscript e (.Slice none none (some (.UnaryOp .USub (.Constant (.int 1) k p1) p2)) p3) pos) (tRev3 X.K te) := by
  constructor
  intro pins s σ H Q I h
  refine PyProof.Rows.Subscript_ (thn (he.run pins s σ H _ I h) fun v s1 z => ?_)
  obtain ⟨x, H1, I1, r1, a, xs, rfl, hx, len1, len3, q⟩ := z
  cases (show v = Value.ref a from r1)
  have hst : PO X (some (.UnaryOp .USub (.Constant (.int 1) k p1) p2)) _ := po_some (pe_un un_neg pe_int)
  refine wpAny_Slice (thn (po_none.run pins s1 σ H1 (fun o H2 => o = none ∧ H2 = H1) I1 ⟨rfl, rfl⟩) fun vl s2 z => ?_)
  obtain ⟨l, H2, I2, pl, rfl, rfl⟩ := z
  refine thn (po_none.run pins s2 σ H2 (fun o H3 => o = none ∧ H3 = H2) I2 ⟨rfl, rfl⟩) fun vu s3 z => ?_
  obtain ⟨l3, H3, I3, pu, rfl, rfl⟩ := z
  refine thn (hst.run pins s3 σ H3 (fun o H4 => o = some (-1) ∧ H4 = H3) I3 ?_) fun vs s4 z => ?_
  · exact ⟨_, rfl, _, rfl, rfl, rfl⟩
  obtain ⟨l4, H4, I4, ps, rfl, rfl⟩ := z
  cases pl
  cases pu
  obtain ⟨its, rv, pt, _⟩ := I4.tuple hx
  refine PyProof.Rows.tail_any (PyProof.Rows.IsTup.typeIs (pt.push _)) PyProof.Rows.slot_tuple_getitem.lookup ?_ rfl
  let o1 : Obj := { cls := .type "slice", data := .fields #[Value.none, Value.none, vs] }
  have sz : (s4.heap.push o1).objs.size = s4.heap.objs.size + 1 := Heap.size_push ..
  rcases xs with _ | ⟨x1, _ | ⟨x2, _ | ⟨x3, _ | ⟨x4, xs⟩⟩⟩⟩
  · exact absurd len1 (by decide)
  · obtain ⟨w1, rfl, ra⟩ := vals1 rv
    refine getItem_rev1 (pt.push _) (Heap.IsSliceOf.new ..) ps ?_
    refine ⟨V.ref (s4.heap.push o1).objs.size, _, I4.laid (o := .tup [x1]) (fun b u e => Heap.get?_push_of_some _ (Heap.get?_push_of_some _ e)) (by rw [sz]; exact Nat.le_succ _) ?_, rfl, q _ (I4.hok.fresh (by rw [sz]; exact Nat.le_succ _))⟩
    exact ⟨by show 1 ≤ sizeLine; decide, [w1], .cons ra .nil, PyProof.Rows.IsTup.new ..⟩
  · obtain ⟨w1, w2, rfl, ra, rb⟩ := vals2 rv
    refine getItem_rev2 (pt.push _) (Heap.IsSliceOf.new ..) ps ?_
    refine ⟨V.ref (s4.heap.push o1).objs.size, _, I4.laid (o := .tup [x2, x1]) (fun b u e => Heap.get?_push_of_some _ (Heap.get?_push_of_some _ e)) (by rw [sz]; exact Nat.le_succ _) ?_, rfl, q _ (I4.hok.fresh (by rw [sz]; exact Nat.le_succ _))⟩
    exact ⟨by show 2 ≤ sizeLine; decide, [w2, w1], .cons rb (.cons ra .nil), PyProof.Rows.IsTup.new ..⟩
  · cases rv with
    | @cons _ w1 _ _ ra rv =>
    obtain ⟨w2, w3, rfl, rb, rc⟩ := vals2 rv
    refine getItem_rev3 (pt.push _) (Heap.IsSliceOf.new ..) ps ?_
    refine ⟨V.ref (s4.heap.push o1).objs.size, _, I4.laid (o := .tup [x3, x2, x1]) (fun b u e => Heap.get?_push_of_some _ (Heap.get?_push_of_some _ e)) (by rw [sz]; exact Nat.le_succ _) ?_, rfl, q _ (I4.hok.fresh (by rw [sz]; exact Nat.le_succ _))⟩
    exact ⟨by show 3 ≤ sizeLine; decide, [w3, w2, w1], .cons rc (.cons rb (.cons ra .nil)), PyProof.Rows.IsTup.new ..⟩
  · exact absurd len3 (by simp)
end WR
namespace WR
open PySem PySem.Spec PyProof.Rows L2
/-- the text and the number of a tuple that stands at t -/
def nmAt (G : Hp) (t : Addr) : Str := match G t with
  | some (.tup [.str n, .int _]) => n
  | _ => ""
def ivAt (G : Hp) (t : Addr) : Int := match G t with
  | some (.tup [.str _, .int i]) => i
  | _ => 0
theorem nm_at {G : Hp} {t : Addr} {n : Str} {i : Int} (e : G t = some (.tup [.str n, .int i])) : nmAt G t = n ∧ ivAt G t = i := by
  unfold nmAt ivAt
  rw [e]
  exact ⟨rfl, rfl⟩
theorem nodup_map_inj {α β : Type} {g : α → β} : ∀ {l : List α}, (l.map g).Nodup → ∀ {t u : α}, t ∈ l → u ∈ l → g t = g u → t = u
  | [], _, _, _, h, _, _ => by cases h
  | a :: l, nd, t, u, ht, hu, e => by
    rw [List.map_cons, List.nodup_cons] at nd
    rcases List.mem_cons.mp ht with rfl | ht2
    · rcases List.mem_cons.mp hu with rfl | hu2
      · rfl
      · exact absurd (e ▸ List.mem_map_of_mem (f := g) hu2) nd.1
    · rcases List.mem_cons.mp hu with rfl | hu2
      · exact absurd (e ▸ List.mem_map_of_mem (f := g) ht2) nd.1
      · exact nodup_map_inj nd.2 ht2 hu2 e
theorem paired_map {α β : Type} {F : α → β → Prop} {g : α → β} : ∀ {l : List α}, (∀ a ∈ l, F a (g a)) → Paired F l (l.map g)
  | [], _ => .nil
  | a :: l, h => .cons (h a List.mem_cons_self) (paired_map fun b hb => h b (List.mem_cons_of_mem _ hb))
section
variable {P : Program} {w : World} {K : PySem.W.Frag} {mg : Str → Option Value} {base : Heap} {f : Addr} {fd : FuncData} {T : Addr}
/-! ### _law_wealths -/
abbrev s_law_wealths : Stmt := topS 42
abbrev N_law_wealths : List Str := ["town", "standing", "pairs", "home", "held"]
abbrev P_law_wealths : List Str := ["town", "standing"]
theorem sc_law_wealths : FnScope N_law_wealths P_law_wealths (defScope s_law_wealths) := ⟨rfl, rfl, rfl, by decide +kernel, rfl, by decide +kernel, by decide +kernel⟩

def sp_law_wealths : Sp := fun vs H Q _ => ∃ (v v2 : V) (hm rs st : List PyData), vs = [v, v2] ∧ DV H v (.tuple [.tuple hm, .tuple rs]) ∧ DV H v2 (.tuple st) ∧ st.length < 64 ∧ townWrong (.tuple [.tuple hm, .tuple rs]) = .none ∧ standingWrong (.tuple [.tuple hm, .tuple rs]) (.tuple st) = .none ∧
  ∀ H' a (ys : List (Str × Int)), StayT H H' → H a = none → H' a = some (.dK (ys.map kvOf)) → ys.Perm (richOf hm st) → sortedS (ys.map Prod.fst) = true → Q (.ref a) H'
theorem ok_law_wealths (F : FnP K "_law_wealths" s_law_wealths f fd) (fr : Free mg) :
    FnOk P w K mg base (L2.CX P w) 1 f fd P_law_wealths sp_law_wealths := by
  refine F.ok sc_law_wealths (fun vs H Q E h => ?_) (fun cdv A outer s H vs Q E hr h => ⟨_, PSs.nox (pss_cons (ps_setLc (i := 2) (own := [("home", 3), ("held", 4)]) (g := gTup K 2 (gCons (gName 3) (gCons (gName 4) (gNil)))) rfl sc_law_wealths.nd rfl rfl (sw_true rfl rfl rfl (by decide +kernel)) (RZ.pi_zipA rfl (fr "zip" (by decide)) (pa_cons (pe_ix ix_K (pv 0) pe_int (fun _ _ => rfl)) (pa_cons (pv 1) pa_nil))) (blkOk_by (N := N_law_wealths) (sc := defScope s_law_wealths) (by decide +kernel)) (fun _ _ _ _ _ => (pg_tup rfl (pgs_cons (pg_name (i := 3) sc_law_wealths.nd rfl (Or.inl rfl)) (pgs_cons (pg_name (i := 4) sc_law_wealths.nd rfl (Or.inl rfl)) pgs_nil)))) (fun _ _ _ _ _ => by exact (pts_one (pt_cmpR (op_neU hr.units0) (pv 4) (pe_tup pa_nil) (nomark _)))) (fun _ _ _ _ _ => by exact (pe_tup (pa_cons (pe_ix ix_D (pv 4) pe_int (fun _ _ => rfl)) (pa_cons (pe_op op_add (pe_ix ix_D (pv 4) pe_int (fun _ _ => rfl)) (pe_ix ix_D (pv 3) pe_int (fun _ _ => rfl))) pa_nil)))))
    (pss_one (ps_ret (pe_callTy (call_dictP rfl) (by rfl) (fr "dict" (by decide)) (by decide +kernel) (pa_cons (pe_callB cr_sortedTP (by rfl) (fr "sorted" (by decide)) (by decide +kernel) (pa_cons (pv 2) pa_nil)) pa_nil))))), ?_⟩)
  · obtain ⟨v, v2, hm, rs, st, rfl, _⟩ := h; rfl
  · obtain ⟨v, v2, hm, rs, st, rfl, hd, hd2, s64, tw, sw, q⟩ := h
    obtain ⟨_, _, _, e1, e2, len, he, hs, nd⟩ := standing_shape tw sw
    cases e1
    cases e2
    obtain ⟨p, zs, rfl, hp, hzs, _⟩ := dv_tup hd
    cases hzs with
    | @cons va vs0 d0 ds0 ha t0 =>
    obtain ⟨aa, xa, rfl, haa, hxa, _⟩ := dv_tup ha
    obtain ⟨as, xs, rfl, has, hxs, _⟩ := dv_tup hd2
    have l1 := hxa.length
    have l2 := hxs.length
    refine ⟨_, rfl, .inr (.inl ⟨p, _, _, .ref aa, rfl, rfl, SqT.of hp, atI_nat (j := 0) rfl, _, rfl, aa, as, xa, xs, rfl, .inr ⟨SqT.of haa, SqT.of has, fun D nD => ?_⟩⟩)⟩
    refine lc_it (walk_zipT (xs := xa) (ys := xs) (n := xa.length) (by omega)) (fun i G => StayT H G ∧ ∃ zs : List (Addr × Str × Int), G D = some (.lst (zs.map fun z => V.ref z.1)) ∧ (∀ z ∈ zs, G z.1 = some (.tup [.str z.2.1, .int z.2.2])) ∧ zs.map Prod.snd = richOf (hm.take i) (st.take i)) ?h0 ?hG ?hs ?hd
    case h0 => exact ⟨(StayT.refl H).new nD, [], upd_same, (fun _ z => by cases z), rfl⟩
    case hG =>
      rintro i G hi ⟨sG, _⟩
      exact ⟨SqT.of (sG.same _ _ haa fun _ z => nomatch z), SqT.of (sG.same _ _ has fun _ z => nomatch z)⟩
    case hs =>
      rintro i tv G G1 hi ⟨sG, zs, hD, hz, ez⟩ ⟨tq, x, y, rfl, ntq, rfl, hx, hy⟩
      obtain ⟨dh, hh1, hdx, _, htk⟩ := dvs_at hxa hx
      obtain ⟨dw, hh2, hdy, _, htk2⟩ := dvs_at hxs hy
      have en := he dh (List.mem_of_getElem? hh1)
      obtain ⟨n0, w0, rfl, _, _⟩ := entry_shape en
      have sG1 := sG.new (o := .tup [x, y]) ntq
      have hD1 : upd G tq (.tup [x, y]) D = some (.lst (zs.map fun z => V.ref z.1)) := by rw [upd_ne (ne_of_none hD ntq)]; exact hD
      have hz1 : ∀ z ∈ zs, upd G tq (.tup [x, y]) z.1 = some (.tup [.str z.2.1, .int z.2.2]) := fun z hzz => by rw [upd_ne (ne_of_none (hz z hzz) ntq)]; exact hz z hzz
      have htq : upd G tq (.tup [x, y]) tq = some (.tup [x, y]) := upd_same
      have hdx1 := hdx.stay sG1
      have hdy1 := hdy.stay sG1
      generalize upd G tq (.tup [x, y]) = G1 at sG1 hD1 hz1 htq hdx1 hdy1
      clear hD hz ntq sG
      have ln : (hm.take i).length = (st.take i).length := by rw [List.length_take, List.length_take]; omega
      have sn := richOf_snoc (hs := hm.take i) (st := st.take i) (h := .tuple [.str n0, .int w0]) (s := dw) ln
      rw [← htk, ← htk2] at sn
      refine ⟨tq, _, rfl, SqT.of htq, rfl, _, _, rfl, _, _, rfl, rfl, ?_⟩
      have ent := hs dw (List.mem_of_getElem? hh2)
      obtain ⟨yl, rfl⟩ : ∃ yl, dw = .tuple yl := by
        rcases ent with u | u
        · cases dw with
          | tuple l => exact ⟨l, rfl⟩
          | _ => cases u
        · obtain ⟨n, i, e, _⟩ := entry_shape u
          exact ⟨_, e⟩
      obtain ⟨ya, ys, rfl, hya, hys, _⟩ := dv_tup hdy1
      refine ⟨rfl, _, rfl, by show 0 ≤ sizeLine; decide, fun u nu => ?_⟩
      have sG2 := sG1.new (o := .tup []) nu
      refine ⟨ya, u, ys, rfl, rfl, (by rw [upd_ne (ne_of_none hya nu)]; exact hya), upd_same, _, rfl, ?_⟩
      have hD2 : upd G1 u (.tup []) D = some (.lst (zs.map fun z => V.ref z.1)) := by rw [upd_ne (ne_of_none hD1 nu)]; exact hD1
      have hz2 : ∀ z ∈ zs, upd G1 u (.tup []) z.1 = some (.tup [.str z.2.1, .int z.2.2]) := fun z hzz => by rw [upd_ne (ne_of_none (hz1 z hzz) nu)]; exact hz1 z hzz
      have hdx2 := hdx1.stay ((StayT.refl G1).new (o := .tup []) nu)
      have hdy2 := hdy1.stay ((StayT.refl G1).new (o := .tup []) nu)
      generalize upd G1 u (.tup []) = G2 at sG2 hD2 hz2 hdx2 hdy2
      clear hD1 hz1 sG1 nu htq hdx1 hdy1 hya
      cases hys with
      | nil =>
        refine iteF ⟨sG2, zs, hD2, hz2, ?_⟩
        rw [sn, if_pos (show isUnit (.tuple []) = true from rfl), List.append_nil]
        exact ez
      | @cons va ys0 a1 yl0 hva t0 =>
      rcases ent with u0 | u0
      · cases u0
      obtain ⟨n1, w1, e1, _, _⟩ := entry_shape u0
      cases e1
      refine iteT ⟨_, rfl, _, .str n1, 0, hdy2, rfl, rfl, fun v1 hv1 => ⟨_, rfl, _, .int w1, 1, hdy2, rfl, rfl, fun v2 hv2 => ⟨_, rfl, _, .int w0, 1, hdx2, rfl, rfl, fun v3 hv3 => ?_⟩⟩⟩
      cases dv_str hv1
      cases dv_int hv2
      cases dv_int hv3
      refine ⟨_, _, rfl, rfl, by show 2 ≤ sizeLine; decide, fun t nt => ?_⟩
      have zl : zs.length ≤ 64 := by
        have h1 : ((richOf (hm.take i) (st.take i)).map Prod.fst).length ≤ (st.take i).length := by
          rw [richOf_names ln, List.length_map]; exact List.length_filter_le _ _
        rw [List.length_map, ← ez, List.length_map, List.length_take] at h1
        omega
      have D_t : D ≠ t := fun z => by rw [z, nt] at hD2; cases hD2
      refine ⟨_, (by rw [upd_ne D_t]; exact hD2), (by rw [List.length_map]; exact Nat.lt_of_le_of_lt zl (by decide)), (sG2.new nt).upd nD, zs ++ [(t, n1, w1 + w0)], ?_, ?_, ?_⟩
      · rw [upd_same]; simp
      · intro z hzz
        rcases List.mem_append.mp hzz with hz3 | hz3
        · have zt : z.1 ≠ t := fun q => by have := hz2 z hz3; rw [q, nt] at this; cases this
          have zD : z.1 ≠ D := fun q => by have := hz2 z hz3; rw [q, hD2] at this; cases this
          rw [upd_ne zD, upd_ne zt]; exact hz2 z hz3
        · cases List.mem_singleton.mp hz3
          rw [upd_ne (Ne.symm D_t), upd_same]
      · rw [List.map_append, ez, sn, if_neg (by simp [isUnit])]
        rfl
    case hd =>
      rintro G ⟨sG, zs, hD, hz, ez⟩
      rw [show hm.take xa.length = hm from by rw [l1, List.take_length], show st.take xa.length = st from by rw [l1, ← len, List.take_length]] at ez
      have nr := richOf_names (hs := hm) (st := st) (by omega)
      have ndr : ((richOf hm st).map Prod.fst).Nodup := by rw [nr]; exact nd
      have lr : zs.length ≤ 63 := by
        have h1 : ((richOf hm st).map Prod.fst).length ≤ st.length := by
          rw [nr, List.length_map]; exact List.length_filter_le _ _
        rw [List.length_map, ← ez, List.length_map] at h1
        omega
      have at_ : ∀ z ∈ zs, nmAt G z.1 = z.2.1 ∧ ivAt G z.1 = z.2.2 := fun z h => nm_at (hz z h)
      have hall : ∀ t ∈ zs.map Prod.fst, G t = some (.tup [.str (nmAt G t), .int (ivAt G t)]) := fun t h => by
        obtain ⟨z, hzz, rfl⟩ := List.mem_map.mp h
        rw [(at_ z hzz).1, (at_ z hzz).2]
        exact hz z hzz
      have emap : (zs.map Prod.fst).map (fun t => (nmAt G t, ivAt G t)) = richOf hm st := by
        rw [← ez, List.map_map]
        refine List.map_congr_left fun z h => ?_
        show (nmAt G z.1, ivAt G z.1) = z.2
        rw [(at_ z h).1, (at_ z h).2]
      have ndm : ((zs.map Prod.fst).map (nmAt G)).Nodup := by
        have : (zs.map Prod.fst).map (nmAt G) = (richOf hm st).map Prod.fst := by rw [← emap, List.map_map, List.map_map, List.map_map]; rfl
        rw [this]; exact ndr
      refine ⟨_, rfl, D, zs.map Prod.fst, nmAt G, ivAt G, rfl, SqL.of (by rw [List.map_map]; exact hD), by rw [List.length_map]; omega, hall, ?_, fun us p perm srt np => ?_⟩
      · intro t ht u hu e
        have tu : t = u := nodup_map_inj ndm ht hu e
        rw [tu]
      · refine ⟨p, us, us.map (fun u => (Sum.inr (nmAt G u), V.int (ivAt G u))), rfl, SqL.of upd_same, ?_, fun p2 np2 => ?_⟩
        · refine paired_map fun u hu => ?_
          have h1 := hall u (perm.mem_iff.mp hu)
          exact SqT.of (by rw [upd_ne (ne_of_none h1 np)]; exact h1)
        · have ndu : (us.map (nmAt G)).Nodup := (perm.map (nmAt G)).nodup_iff.mpr ndm
          have nd2 : ((us.map (fun u => ((Sum.inr (nmAt G u) : Key), V.int (ivAt G u)))).map Prod.fst).Nodup := by
            rw [List.map_map]
            have e : (Prod.fst ∘ fun u => ((Sum.inr (nmAt G u) : Key), V.int (ivAt G u))) = (Sum.inr : Str → Key) ∘ nmAt G := rfl
            rw [e, ← List.map_map]
            exact List.pairwise_map.mpr (ndu.imp fun n z => n (by injection z))
          rw [merge_new _ [] (by simpa using nd2), List.nil_append]
          have np2' : G p2 = none := by
            have ne : p2 ≠ p := fun z => by rw [z, upd_same] at np2; cases np2
            rw [upd_ne ne] at np2; exact np2
          refine q _ p2 (us.map fun u => (nmAt G u, ivAt G u)) ((sG.new np).new np2) (sG.none np2') (by rw [upd_same, List.map_map]; rfl) ?_ ?_
          · rw [← emap]; exact perm.map _
          · rw [List.map_map]
            exact lists_sorted (List.pairwise_map.mpr srt)
end
end WR
namespace WR
open PySem PySem.Spec PyProof.Rows L2
section
variable {P : Program} {w : World} {K : PySem.W.Frag} {mg : Str → Option Value} {base : Heap} {f : Addr} {fd : FuncData} {T : Addr}
/-! ### _law_stands -/
abbrev s_law_stands : Stmt := topS 43
abbrev N_law_stands : List Str := ["standing", "held"]
abbrev P_law_stands : List Str := ["standing"]
theorem sc_law_stands : FnScope N_law_stands P_law_stands (defScope s_law_stands) := ⟨rfl, rfl, rfl, by decide +kernel, rfl, by decide +kernel, by decide +kernel⟩

/-- who stands where -/
def standsD (st : List PyData) : List PyData := st.map fun d => .str (entryName d)
def sp_law_stands : Sp := fun vs H Q _ => ∃ (v2 : V) (st : List PyData), vs = [v2] ∧ DV H v2 (.tuple st) ∧ (∀ d ∈ st, isUnit d = true ∨ isEntry d = true) ∧ ∀ H' r, StayT H H' → DV H' r (.tuple (standsD st)) → Q r H'
theorem ok_law_stands (F : FnP K "_law_stands" s_law_stands f fd) (fr : Free mg) :
    FnOk P w K mg base (L2.CX P w) 1 f fd P_law_stands sp_law_stands := by
  refine F.ok sc_law_stands (fun vs H Q E h => ?_) (fun cdv A outer s H vs Q E hr h => ⟨_, PSs.nox (pss_one (ps_ret (pe_callTy call_tuple_of (by rfl) (fr "tuple" (by decide)) (by decide +kernel) (pa_cons (pe_lc (own := [("held", 1)]) (g := gName 1) (tt := tYes) rfl sc_law_stands.nd (pi_tup (pv 0)) (blkOk_by (N := N_law_stands) (sc := defScope s_law_stands) (by decide +kernel)) (fun _ _ _ _ _ => (pg_name (i := 1) sc_law_stands.nd rfl (Or.inl rfl))) (fun _ _ _ _ _ => by exact pts_nil) (fun _ _ _ _ _ => by exact (pe_ix ix_K (pe_op catA_K (pv 1) (pe_tup (pa_cons pe_str pa_nil))) pe_int (fun _ _ => rfl)))) pa_nil)))), ?_⟩)
  · obtain ⟨v2, st, rfl, _⟩ := h; rfl
  · obtain ⟨v2, st, rfl, hd2, hs, q⟩ := h
    obtain ⟨as, xs, rfl, has, hxs, hl⟩ := dv_tup hd2
    have l2 := hxs.length
    refine ⟨_, rfl, as, rfl, ⟨_, SqT.of has⟩, fun D nD => ?_⟩
    refine lc_build (walk_tup (xs := xs)) (standsD st) (by rw [standsD, List.length_map]; omega) nD (by show 1 < 2; decide) (by omega) (fun H2 s2 => SqT.of (s2.same _ _ has fun _ z => nomatch z)) (fun i x H2 d hi hx hd s2 hD R r => ?_) (fun H2 vs s2 hD hvs => ?_)
    · obtain ⟨dw, hh2, hdy, _, _⟩ := dvs_at hxs hx
      have ed : d = .str (entryName dw) := by
        rw [standsD, List.getElem?_map, hh2] at hd
        exact (Option.some.inj hd).symm
      subst ed
      have ent := hs dw (List.mem_of_getElem? hh2)
      obtain ⟨yl, rfl⟩ : ∃ yl, dw = .tuple yl := by
        rcases ent with u | u
        · cases dw with
          | tuple l => exact ⟨l, rfl⟩
          | _ => cases u
        · obtain ⟨n, i, e, _⟩ := entry_shape u
          exact ⟨_, e⟩
      obtain ⟨ya, ys, rfl, hya, hys, _⟩ := dv_tup (hdy.stay s2)
      refine ⟨_, rfl, (by show 1 ≤ sizeLine; decide), fun u nu => ?_⟩
      have hya1 : upd H2 u (.tup [V.str (Str.ofString "")]) ya = some (.tup ys) := by rw [upd_ne (ne_of_none hya nu)]; exact hya
      have ly := hys.length
      have lyy : yl.length ≤ 2 := by
        rcases ent with u0 | u0
        · cases yl with
          | nil => exact Nat.zero_le _
          | cons _ _ => cases u0
        · obtain ⟨n1, w1, e1, _, _⟩ := entry_shape u0
          cases e1
          exact Nat.le_refl _
      refine ⟨ya, u, ys, _, rfl, rfl, SqT.of hya1, SqT.of upd_same, ?_, ?_⟩
      · have : ys.length + 1 ≤ 3 := by omega
        exact Nat.le_trans this (by decide)
      cases hys with
      | nil => exact ⟨fun _ => .inr (.inl ⟨u, _, _, _, rfl, rfl, SqT.of upd_same, atI_nat (j := 0) rfl, r _ _ ((StayT.refl H2).new nu) (.str (by decide +kernel) (by decide +kernel))⟩), fun z => absurd rfl z, fun z => absurd rfl z⟩
      | @cons va ys0 a1 yl0 hva t0 =>
      rcases ent with u0 | u0
      · cases u0
      obtain ⟨n1, w1, e1, nm, _⟩ := entry_shape u0
      cases e1
      cases dv_str hva
      refine ⟨fun z => absurd z (by simp), fun _ z => absurd z (by simp), fun _ _ t nt => ?_⟩
      exact .inr (.inl ⟨t, _, _, _, rfl, rfl, SqT.of upd_same, atI_nat (j := 0) rfl, r _ _ (((StayT.refl H2).new nu).new nt) (by cases hva with | str a b => exact .str a b)⟩)
    · refine ⟨D, vs, rfl, .inl ⟨SqL.of hD, fun t nt => ?_⟩⟩
      exact q _ _ (s2.new nt) (.tup upd_same (hvs.out.stay ((StayT.refl H2).new nt)) (by rw [standsD, List.length_map]; exact hl))
end
end WR
namespace WR
open PySem PySem.Spec PyProof.Rows L2
theorem rich_mem : ∀ {hm st : List PyData} {k : Nat} {h : PyData} {n : Str} {c : Int}, hm[k]? = some h → st[k]? = some (.tuple [.str n, .int c]) → (n, c + worthOf h) ∈ richOf hm st
  | [], _, k, _, _, _, e, _ => by cases e
  | _ :: _, [], k, _, _, _, _, e => by cases e
  | a :: hm, b :: st, 0, h, n, c, e, e2 => by
    cases e
    cases e2
    exact List.mem_cons_self
  | a :: hm, b :: st, k + 1, h, n, c, e, e2 => by
    have ih := rich_mem (hm := hm) (st := st) (k := k) (h := h) (n := n) (c := c) (by simpa using e) (by simpa using e2)
    show _ ∈ (if isUnit b = true then richOf hm st else (entryName b, worthOf b + worthOf a) :: richOf hm st)
    by_cases u : isUnit b = true
    · rw [if_pos u]; exact ih
    · rw [if_neg u]; exact List.mem_cons_of_mem _ ih
/-- what a place gives to the wealths -/
def rcOf (p : PyData × PyData) : Option (Str × Int) := if isUnit p.2 = true then none else some (entryName p.2, worthOf p.2 + worthOf p.1)
theorem rich_list : ∀ (hm st : List PyData), richOf hm st = ((hm.zip st).map rcOf).filterMap id
  | [], _ => rfl
  | _ :: _, [] => rfl
  | a :: hm, b :: st => by
    show (if isUnit b = true then richOf hm st else (entryName b, worthOf b + worthOf a) :: richOf hm st) = List.filterMap id (rcOf (a, b) :: (hm.zip st).map rcOf)
    by_cases u : isUnit b = true
    · rw [if_pos u, rich_list hm st]
      have : rcOf (a, b) = none := if_pos u
      rw [this]; rfl
    · rw [if_neg u, rich_list hm st]
      have : rcOf (a, b) = some (entryName b, worthOf b + worthOf a) := if_neg u
      rw [this]; rfl
theorem rc_moved {h h2 d : PyData} {r : Int} (hd : held d) (e : worthOf h2 = worthOf h + r) : rcOf (h2, movedD d r) = rcOf (h, d) := by
  rcases hd with rfl | ⟨n, c, rfl⟩
  · rfl
  · show some (n, (c - r) + worthOf h2) = some (n, c + worthOf h)
    rw [e, show c - r + (worthOf h + r) = c + worthOf h by omega]
theorem getD_at {l : List PyData} {i : Nat} (hi : i < l.length) : l.getD i .none = l[i] := by rw [List.getD_eq_getElem?_getD, List.getElem?_eq_getElem hi]; rfl
theorem exchange_rich {hm st : List PyData} {i j : Nat} (hs : ∀ d ∈ st, held d) (len : st.length = hm.length) (hi : i < hm.length) (hj : j < hm.length) : (richOf hm (exchangeD hm st i j)).Perm (richOf hm st) := by
  rw [rich_list, rich_list]
  refine List.Perm.filterMap _ ?_
  have si : i < st.length := by omega
  have sj : j < st.length := by omega
  have li : i < ((hm.zip st).map rcOf).length := by simp [len, hi]
  have lj : j < ((hm.zip st).map rcOf).length := by simp [len, hj]
  have e : (hm.zip (exchangeD hm st i j)).map rcOf = (((hm.zip st).map rcOf).set i ((hm.zip st).map rcOf)[j]).set j ((hm.zip st).map rcOf)[i] := by
    refine List.ext_getElem (by simp [exchange_len]) fun k h1 h2 => ?_
    have hk : k < hm.length := by simp at h1; omega
    have sk : k < st.length := by omega
    have rj : riseOf hm i j = worthOf hm[j] - worthOf hm[i] := by unfold riseOf; rw [getD_at hi, getD_at hj]
    have ek : (exchangeD hm st i j)[k]'(by rw [exchange_len]; exact sk) = if j = k then movedD st[i] (riseOf hm i j) else if i = k then movedD st[j] (-riseOf hm i j) else st[k] := by
      have e0 : exchangeD hm st i j = (st.set i (movedD st[j] (-riseOf hm i j))).set j (movedD st[i] (riseOf hm i j)) := by
        unfold exchangeD
        rw [getD_at si, getD_at sj]
      simp only [e0, List.getElem_set]
    simp only [List.getElem_map, List.getElem_zip, List.getElem_set, ek]
    by_cases kj : j = k
    · subst kj
      simp only [if_true]
      exact rc_moved (hs _ (List.getElem_mem si)) (by rw [rj]; omega)
    · rw [if_neg kj, if_neg kj]
      by_cases ki : i = k
      · subst ki
        simp only [if_true]
        exact rc_moved (hs _ (List.getElem_mem sj)) (by rw [rj]; omega)
      · rw [if_neg ki, if_neg ki]
  rw [e]
  exact List.set_set_perm li lj
theorem name_moved {d : PyData} {r : Int} (h : held d) : entryName (movedD d r) = entryName d := by
  rcases h with rfl | ⟨n, c, rfl⟩ <;> rfl
theorem stands_len (st : List PyData) : (standsD st).length = st.length := by rw [standsD, List.length_map]
theorem exchange_standsD {hm st : List PyData} {i j : Nat} (hs : ∀ d ∈ st, held d) (hi : i < st.length) (hj : j < st.length) : standsD (exchangeD hm st i j) = ((standsD st).set i ((standsD st).getD j .none)).set j ((standsD st).getD i .none) := by
  rw [getD_at (by rw [stands_len]; exact hj), getD_at (by rw [stands_len]; exact hi)]
  unfold standsD exchangeD
  rw [getD_at hi, getD_at hj, List.map_set, List.map_set, name_moved (hs _ (List.getElem_mem hj)), name_moved (hs _ (List.getElem_mem hi)), List.getElem_map, List.getElem_map]
theorem pairs_facts (ds : List PyData) (p : Str × Str) : isPairS (.tuple ds) p = decide (pairS (.tuple ds) = some p) := by
  obtain ⟨a, b⟩ := p
  match ds with
  | [] => simp [isPairS, pairS]
  | [x] => simp [isPairS, pairS]
  | x :: y :: z :: r => simp [isPairS, pairS]
  | [x, y] =>
    cases x <;> cases y <;> simp [isPairS, pairS, strIs]
    rename_i x y
    by_cases e1 : a = x
    · by_cases e2 : b = y
      · simp [e1, e2]
      · simp [e1, e2, Ne.symm e2]
    · simp [e1, Ne.symm e1]
theorem pairS_rev {ds : List PyData} {a b : Str} (h : pairS (.tuple ds.reverse) = some (b, a)) : pairS (.tuple ds) = some (a, b) := by
  have := pairS_some h
  have e : ds.reverse = [.str b, .str a] := by injection this
  have e2 : ds = [.str a, .str b] := by rw [← List.reverse_reverse ds, e]; rfl
  rw [e2]; rfl
theorem dvs_rev {H : Hp} : ∀ {xs : List V} {ds : List PyData}, DVs H xs ds → DVs H xs.reverse ds.reverse
  | _, _, .nil => .nil
  | _, _, .cons h t => by
    rw [List.reverse_cons, List.reverse_cons]
    exact (dvs_rev t).snoc h
/-- what the law reckons of who lacks -/
def lawS (d : PyData) (r : Int) : PyData := match d with
  | .tuple [.str n, .int c] => if 0 < r - c then .tuple [.str n, .int (r - c)] else .none
  | _ => .none
theorem short_A {hm st : List PyData} {i j : Nat} (hs : ∀ d ∈ st, isUnit d = true ∨ isEntry d = true) (hi : i < st.length) (hj : j < st.length) (le : ¬ worthOf (hm.getD j .none) < worthOf (hm.getD i .none)) :
    shortD hm st i j = lawS (st.getD i .none) (worthOf (hm.getD j .none) - worthOf (hm.getD i .none)) := by
  have er : worthOf (hm.getD j .none) - worthOf (hm.getD i .none) = riseOf hm i j := rfl
  unfold shortD
  rw [er]
  have hr : 0 ≤ riseOf hm i j := by rw [← er]; omega
  generalize riseOf hm i j = r at hr
  have ri := hs _ (List.getElem_mem hi)
  have rj := hs _ (List.getElem_mem hj)
  rw [getD_at hi, getD_at hj]
  generalize st[i] = x at ri
  generalize st[j] = y at rj
  have hx := held_of ri
  have hy := held_of rj
  by_cases p : 0 < r
  · rw [if_pos p]
    rcases hx with rfl | ⟨n, c, rfl⟩
    · rfl
    · rw [shortOf_eq]
      show _ = if 0 < r - c then _ else _
      have : absI r = r := by unfold absI; rw [if_neg (by omega)]
      rw [this]
      by_cases q : r ≤ c
      · rw [if_pos q, if_neg (by omega)]
      · rw [if_neg q, if_pos (by omega)]
  · rw [if_neg p]
    have r0 : r = 0 := by omega
    subst r0
    have e1 : shortOf y 0 = .none := by
      rcases hy with rfl | ⟨n, c, rfl⟩
      · rfl
      · rw [shortOf_eq, if_pos]
        have := entry_low rj
        unfold absI; rw [if_neg (by omega)]; exact this
    rw [e1]
    rcases hx with rfl | ⟨n, c, rfl⟩
    · rfl
    · have := entry_low ri
      show _ = if 0 < 0 - c then _ else _
      rw [if_neg (by omega)]
theorem short_B {hm st : List PyData} {i j : Nat} (hs : ∀ d ∈ st, isUnit d = true ∨ isEntry d = true) (hi : i < st.length) (hj : j < st.length) (le : worthOf (hm.getD j .none) < worthOf (hm.getD i .none)) :
    shortD hm st i j = lawS (st.getD j .none) (worthOf (hm.getD i .none) - worthOf (hm.getD j .none)) := by
  have er : worthOf (hm.getD j .none) - worthOf (hm.getD i .none) = riseOf hm i j := rfl
  unfold shortD
  have hr : riseOf hm i j < 0 := by rw [← er]; omega
  have e2 : worthOf (hm.getD i .none) - worthOf (hm.getD j .none) = -riseOf hm i j := by rw [← er]; omega
  rw [e2]
  generalize riseOf hm i j = r at hr
  rw [if_neg (by omega)]
  have hy := held_of (hs _ (List.getElem_mem hj))
  rw [getD_at hj]
  generalize st[j] = y at hy
  rcases hy with rfl | ⟨n, c, rfl⟩
  · rfl
  · rw [shortOf_eq]
    show _ = if 0 < -r - c then _ else _
    have : absI r = -r := by unfold absI; rw [if_pos hr]
    rw [this]
    by_cases q : -r ≤ c
    · rw [if_pos q, if_neg (by omega)]
    · rw [if_neg q, if_pos (by omega)]
section
variable {P : Program} {w : World} {K : PySem.W.Frag} {mg : Str → Option Value} {base : Heap} {f : Addr} {fd : FuncData} {T : Addr}
/-! ### _law_placed -/
abbrev s_law_placed : Stmt := topS 44
abbrev N_law_placed : List Str := ["town", "riches", "stands", "found", "home", "hand"]
abbrev P_law_placed : List Str := ["town", "riches", "stands"]
theorem sc_law_placed : FnScope N_law_placed P_law_placed (defScope s_law_placed) := ⟨rfl, rfl, rfl, by decide +kernel, rfl, by decide +kernel, by decide +kernel⟩

def sp_law_placed : Sp := fun vs H Q _ => ∃ (v v3 : V) (ra : Addr) (hm rs st : List PyData) (ys : List (Str × Int)), vs = [v, .ref ra, v3] ∧ DV H v (.tuple [.tuple hm, .tuple rs]) ∧ H ra = some (.dK (ys.map kvOf)) ∧ ys.Perm (richOf hm st) ∧ DV H v3 (.tuple (standsD st)) ∧
  townWrong (.tuple [.tuple hm, .tuple rs]) = .none ∧ standingWrong (.tuple [.tuple hm, .tuple rs]) (.tuple st) = .none ∧ ∀ H' r, StayT H H' → DV H' r (.tuple st) → Q r H'
theorem ok_law_placed (F : FnP K "_law_placed" s_law_placed f fd) (fr : Free mg) :
    FnOk P w K mg base (L2.CX P w) 1 f fd P_law_placed sp_law_placed := by
  refine F.ok sc_law_placed (fun vs H Q E h => ?_) (fun cdv A outer s H vs Q E hr h => ⟨_, PSs.nox (pss_cons (ps_set (i := 3) sc_law_placed.nd rfl (Or.inl rfl) (pe_lst pa_nil))
    (pss_cons (ps_for PassesOwn.never rfl (RZ.pi_zipA rfl (fr "zip" (by decide)) (pa_cons (pe_ix ix_K (pv 0) pe_int (fun _ _ => rfl)) (pa_cons (pv 2) pa_nil))) (pg_tup rfl (pgs_cons (pg_name (i := 4) sc_law_placed.nd rfl (Or.inl rfl)) (pgs_cons (pg_name (i := 5) sc_law_placed.nd rfl (Or.inl rfl)) pgs_nil))) (pss_one (ps_expr (pe_bm PySem.F.plainAttrs_list PySem.F.slot_list_append PySem.F.type_list_append mt_append (pv 3) (pa_cons (pe_ifExp (pt_cmpR op_eq (pv 5) pe_str (nomark _)) (pe_tup pa_nil) (pe_tup (pa_cons (pv 5) (pa_cons (pe_op op_sub (pe_dget (hu_of hr) (pv 1) (pv 5) (fun _ _ => rfl)) (pe_ix ix_D (pv 4) pe_int (fun _ _ => rfl))) pa_nil)))) pa_nil)))))
    (pss_one (ps_ret (pe_callTy call_tuple_of (by rfl) (fr "tuple" (by decide)) (by decide +kernel) (pa_cons (pv 3) pa_nil)))))), ?_⟩)
  · obtain ⟨v, v3, ra, hm, rs, st, ys, rfl, _⟩ := h; rfl
  · obtain ⟨v, v3, ra, hm, rs, st, ys, rfl, hd, hra, perm, hd3, tw, sw, q⟩ := h
    obtain ⟨_, _, _, e1, e2, len, he, hs, nd⟩ := standing_shape tw sw
    cases e1
    cases e2
    have nr := richOf_names (hs := hm) (st := st) (by omega)
    have ndr : ((richOf hm st).map Prod.fst).Nodup := by rw [nr]; exact nd
    have ndy : (ys.map Prod.fst).Nodup := (perm.map Prod.fst).nodup_iff.mpr ndr
    obtain ⟨p, zs, rfl, hp, hzs, _⟩ := dv_tup hd
    cases hzs with
    | @cons va vs0 d0 ds0 ha t0 =>
    obtain ⟨aa, xa, rfl, haa, hxa, hla⟩ := dv_tup ha
    obtain ⟨as, xs, rfl, has, hxs, hls⟩ := dv_tup hd3
    rw [stands_len] at hls
    have l1 := hxa.length
    have l2 := hxs.length
    rw [stands_len] at l2
    refine ⟨by show 0 ≤ sizeLine; decide, fun fo nfo => ?_⟩
    have s1 := (StayT.refl H).new (o := .lst []) nfo
    refine ⟨_, rfl, .inr (.inl ⟨p, _, _, .ref aa, rfl, rfl, SqT.of (s1.same _ _ hp fun _ z => nomatch z), atI_nat (j := 0) rfl, _, rfl, aa, as, xa, xs, rfl, .inr ⟨SqT.of (s1.same _ _ haa fun _ z => nomatch z), SqT.of (s1.same _ _ has fun _ z => nomatch z), ?_⟩⟩)⟩
    refine RZ.for_zipT (xs := xa) (ys := xs) (by omega) (fun i σ G => ∃ (o4 o5 : Option V) (us : List V), σ = [some (.ref p), some (.ref ra), some (.ref as), some (.ref fo), o4, o5] ∧ StayT H G ∧ G fo = some (.lst us) ∧ DVs (wl [fo] G) us (st.take i)) ?h0 ?hq ?hs ?hd
    case h0 => exact ⟨none, none, [], rfl, s1, upd_same, .nil⟩
    case hq =>
      rintro i σ G ⟨o4, o5, us, rfl, sG, _⟩
      exact ⟨SqT.of (sG.same _ _ haa fun _ z => nomatch z), SqT.of (sG.same _ _ has fun _ z => nomatch z)⟩
    case hd =>
      rintro σ G ⟨o4, o5, us, rfl, sG, hfo, hus⟩
      rw [show st.take xa.length = st from by rw [l1, ← len, List.take_length]] at hus
      refine ⟨_, rfl, _, us, rfl, .inl ⟨SqL.of hfo, fun t nt => ?_⟩⟩
      exact q _ _ (sG.new nt) (.tup upd_same (hus.out.stay ((StayT.refl G).new nt)) hls)
    case hs =>
      rintro i x y tq σ G hx hy ⟨o4, o5, us, rfl, sG, hfo, hus⟩ ntq
      obtain ⟨dh, hh1, hdx, _, htk⟩ := dvs_at hxa hx
      obtain ⟨dw, hh2, hdy, _, htk2⟩ := dvs_at hxs hy
      rw [standsD, List.getElem?_map] at hh2
      obtain ⟨ds, hds, e⟩ := Option.map_eq_some_iff.mp hh2
      subst e
      have tks : st.take (i + 1) = st.take i ++ [ds] := by rw [List.take_add_one, hds]; rfl
      cases dv_str hdy
      have sG1 := sG.new (o := .tup [x, .str (entryName ds)]) ntq
      have w1 := wl_alloc (ms := [fo]) (o := .tup [x, .str (entryName ds)]) ntq
      have hfo1 : upd G tq (.tup [x, .str (entryName ds)]) fo = some (.lst us) := by rw [upd_ne (ne_of_none hfo ntq)]; exact hfo
      have hus1 := hus.stay w1
      have htq : upd G tq (.tup [x, .str (entryName ds)]) tq = some (.tup [x, .str (entryName ds)]) := upd_same
      generalize upd G tq (.tup [x, .str (entryName ds)]) = G1 at sG1 hfo1 hus1 htq
      clear w1 hfo hus sG ntq
      refine ⟨tq, _, rfl, SqT.of htq, rfl, _, _, rfl, _, _, rfl, rfl, ?_⟩
      have uin : fo ∈ [fo] := List.mem_singleton.mpr rfl
      have lus : us.length ≤ 1000 := by
        have := hus1.length
        rw [List.length_take] at this
        omega
      refine ⟨_, rfl, .inl ⟨rfl, _, SqL.of hfo1⟩, ?_⟩
      rcases hs ds (List.mem_of_getElem? hds) with hu | hu
      · obtain ⟨l0, rfl⟩ : ∃ l, ds = .tuple l := by
          cases ds with
          | tuple l => exact ⟨l, rfl⟩
          | _ => cases hu
        have l0e : l0 = [] := by
          cases l0 with
          | nil => rfl
          | cons _ _ => cases hu
        subst l0e
        refine ⟨_, rfl, rfl, true, by decide +kernel, iteT ⟨by show 0 ≤ sizeLine; decide, fun t nt => ?_⟩⟩
        have t_fo : fo ≠ t := fun z => by rw [z, nt] at hfo1; cases hfo1
        refine ⟨fo, us, _, rfl, rfl, by rw [upd_ne t_fo]; exact hfo1, Nat.lt_of_le_of_lt lus (by decide), ?_⟩
        refine ⟨_, _, _, rfl, (sG1.new nt).upd nfo, upd_same, ?_⟩
        rw [wl_upd_in uin, tks]
        exact (hus1.stay (wl_alloc nt)).snoc (.tup (by rw [wl_out (by simpa using Ne.symm t_fo)]; exact upd_same) .nil (by decide))
      · obtain ⟨n1, w1, rfl, nm, _⟩ := entry_shape hu
        have nn : n1 ≠ "" := fun z => by rw [z] at nm; cases nm
        obtain ⟨n0, w0, rfl, _, _⟩ := entry_shape (he dh (List.mem_of_getElem? hh1))
        have mem := rich_mem hh1 hds
        have memy := perm.mem_iff.mpr mem
        have val := val_some (l := ys) (n := n1) (List.mem_map_of_mem (f := Prod.fst) memy)
        rw [wealth_map ndy _ memy] at val
        refine ⟨_, rfl, rfl, false, ?_, iteF ?_⟩
        · show V.bl (decide (V.str n1 = V.str "")) = V.bl false
          rw [decide_eq_false fun z => nn (by injection z)]
        obtain ⟨xa0, zx, rfl, hx0, hzx, _⟩ := dv_tup (hdx.stay sG1)
        cases hzx with
        | @cons v0 vs1 d1 ds1 g0 t0 =>
        cases t0 with
        | @cons v1 vs2 d2 ds2 g1 t1 =>
        cases t1
        have dxx : DV G1 (.ref xa0) (.tuple [.str n0, .int w0]) := hdx.stay sG1
        refine ⟨_, rfl, _, rfl, _, rfl, ra, _, rfl, .inl ⟨ys.map kvOf, Sum.inr n1, .inl (sG1.same _ _ hra fun _ z => nomatch z), rfl, val.symm⟩, _, rfl, _, .int w0, 1, dxx, rfl, rfl, fun v3 hv3 => ?_⟩
        cases dv_int hv3
        refine ⟨_, _, rfl, rfl, by show 2 ≤ sizeLine; decide, fun t nt => ?_⟩
        have t_fo : fo ≠ t := fun z => by rw [z, nt] at hfo1; cases hfo1
        refine ⟨fo, us, _, rfl, rfl, by rw [upd_ne t_fo]; exact hfo1, Nat.lt_of_le_of_lt lus (by decide), ?_⟩
        refine ⟨_, _, _, rfl, (sG1.new nt).upd nfo, upd_same, ?_⟩
        rw [wl_upd_in uin, tks]
        refine (hus1.stay (wl_alloc nt)).snoc (.tup (by rw [wl_out (by simpa using Ne.symm t_fo)]; exact upd_same) ?_ (by show 2 ≤ 1000; decide))
        have ew : w1 + worthOf (.tuple [.str n0, .int w0]) - w0 = w1 := by show w1 + w0 - w0 = w1; omega
        show DVs _ [V.str n1, V.int (w1 + worthOf (.tuple [.str n0, .int w0]) - w0)] [PyData.str n1, PyData.int w1]
        rw [ew]
        exact .cons (by cases hdy with | str a b => exact .str a b) (.cons (.int _) .nil)
/-! ### _law_swapped -/
abbrev s_law_swapped : Stmt := topS 48
abbrev N_law_swapped : List Str := ["town", "stands", "pair", "names", "at", "to", "later", "name", "worth"]
abbrev P_law_swapped : List Str := ["town", "stands", "pair"]
theorem sc_law_swapped : FnScope N_law_swapped P_law_swapped (defScope s_law_swapped) := ⟨rfl, rfl, rfl, by decide +kernel, rfl, by decide +kernel, by decide +kernel⟩

def sp_law_swapped : Sp := fun vs H Q _ => ∃ (v v3 v4 : V) (hm rs st : List PyData) (a b : Str) (i j : Nat), vs = [v, v3, v4] ∧ DV H v (.tuple [.tuple hm, .tuple rs]) ∧ DV H v3 (.tuple (standsD st)) ∧ DV H v4 (pairOf (a, b)) ∧ (hm.map entryName)[i]? = some a ∧ (hm.map entryName)[j]? = some b ∧
  townWrong (.tuple [.tuple hm, .tuple rs]) = .none ∧ standingWrong (.tuple [.tuple hm, .tuple rs]) (.tuple st) = .none ∧ ∀ H' r, StayT H H' → DV H' r (.tuple (standsD (exchangeD hm st i j))) → Q r H'
theorem ok_law_swapped (F : FnP K "_law_swapped" s_law_swapped f fd) (fr : Free mg) :
    FnOk P w K mg base (L2.CX P w) 1 f fd P_law_swapped sp_law_swapped := by
  refine F.ok sc_law_swapped (fun vs H Q E h => ?_) (fun cdv A outer s H vs Q E hr h => ⟨_, PSs.nox (pss_cons (ps_setLc (i := 3) (own := [("name", 7), ("worth", 8)]) (g := gTup K 2 (gCons (gName 7) (gCons (gName 8) (gNil)))) (tt := tYes) rfl sc_law_swapped.nd rfl rfl (sw_true rfl rfl rfl (by decide +kernel)) (pi_tup (pe_ix ix_K (pv 0) pe_int (fun _ _ => rfl))) (blkOk_by (N := N_law_swapped) (sc := defScope s_law_swapped) (by decide +kernel)) (fun _ _ _ _ _ => (pg_tup rfl (pgs_cons (pg_name (i := 7) sc_law_swapped.nd rfl (Or.inl rfl)) (pgs_cons (pg_name (i := 8) sc_law_swapped.nd rfl (Or.inl rfl)) pgs_nil)))) (fun _ _ _ _ _ => by exact pts_nil) (fun _ _ _ _ _ => by exact (pv 7)))
    (pss_cons (ps_par (i := 4) (j := 5) rfl sc_law_swapped.nd rfl rfl (by decide) rfl rfl (pa_cons (pe_bm PySem.F.plainAttrs_list PySem.F.slot_list_index PySem.F.type_list_index mt_index (pv 3) (pa_cons (pe_ix ix_D (pv 2) pe_int (fun _ _ => rfl)) pa_nil)) (pa_cons (pe_bm PySem.F.plainAttrs_list PySem.F.slot_list_index PySem.F.type_list_index mt_index (pv 3) (pa_cons (pe_ix ix_D (pv 2) pe_int (fun _ _ => rfl)) pa_nil)) pa_nil)) rfl)
    (pss_cons (ps_set (i := 6) sc_law_swapped.nd rfl (Or.inl rfl) (pe_callTy call_list_of (by rfl) (fr "list" (by decide)) (by decide +kernel) (pa_cons (pv 1) pa_nil)))
    (pss_cons (ps_asg (pe_tup (pa_cons (pe_ix ix_K (pv 1) (pv 5) (fun _ _ => rfl)) (pa_cons (pe_ix ix_K (pv 1) (pv 4) (fun _ _ => rfl)) pa_nil))) (pg_tup rfl (pgs_cons (pg_sub (pv 6) (pv 4) set_list) (pgs_cons (pg_sub (pv 6) (pv 5) set_list) pgs_nil))))
    (pss_one (ps_ret (pe_callTy call_tuple_of (by rfl) (fr "tuple" (by decide)) (by decide +kernel) (pa_cons (pv 6) pa_nil)))))))), ?_⟩)
  · obtain ⟨v, v3, v4, hm, rs, st, a, b, i, j, rfl, _⟩ := h; rfl
  · obtain ⟨v, v3, v4, hm, rs, st, a, b, i, j, rfl, hd, hd3, hd4, ia, jb, tw, sw, q⟩ := h
    obtain ⟨_, _, _, e1, e2, len, he, hs, nd⟩ := standing_shape tw sw
    cases e1
    cases e2
    obtain ⟨p, zs, rfl, hp, hzs, _⟩ := dv_tup hd
    cases hzs with
    | @cons va vs0 d0 ds0 ha t0 =>
    obtain ⟨aa, xa, rfl, haa, hxa, hla⟩ := dv_tup ha
    obtain ⟨as, xs, rfl, has, hxs, hls⟩ := dv_tup hd3
    rw [stands_len] at hls
    have l1 := hxa.length
    have l2 := hxs.length
    rw [stands_len] at l2
    refine ⟨_, rfl, .inr (.inl ⟨p, _, _, .ref aa, rfl, rfl, SqT.of hp, atI_nat (j := 0) rfl, ?_⟩)⟩
    have hnd : (hm.map entryName).Nodup := by
      obtain ⟨d0, l0, rs0, e0, bh, br⟩ := town_shape tw
      cases e0
      have ndn := badHome_nodup _ _ _ bh List.nodup_nil
      rwa [List.nil_append] at ndn
    refine ⟨aa, rfl, ⟨xa, SqT.of haa⟩, fun nl nnl => ?_⟩
    refine lc_names haa hxa he hla nnl (fun _ _ => rfl) (fun _ _ => rfl) fun H1 s1 hnl => ?_
    have li := (List.getElem?_eq_some_iff.mp ia).1
    have lj := (List.getElem?_eq_some_iff.mp jb).1
    rw [List.length_map] at li lj
    refine ⟨_, rfl, .inl ⟨rfl, _, SqL.of hnl⟩, _, rfl, _, .str a, 0, hd4.stay s1, rfl, rfl, fun v1 hv1 => ?_⟩
    cases dv_str hv1
    obtain ⟨f1, f2, f3, f4⟩ := idx_facts hnd ia
    refine ⟨nl, _, .str a, i, _, rfl, rfl, SqL.of hnl, rfl, f1, f2, f3, f4, ?_⟩
    refine ⟨_, rfl, .inl ⟨rfl, _, SqL.of hnl⟩, _, rfl, _, .str b, 1, hd4.stay s1, rfl, rfl, fun v2 hv2 => ?_⟩
    cases dv_str hv2
    obtain ⟨f5, f6, f7, f8⟩ := idx_facts hnd jb
    refine ⟨nl, _, .str b, j, _, rfl, rfl, SqL.of hnl, rfl, f5, f6, f7, f8, ?_⟩
    refine ⟨_, _, rfl, ?_⟩
    have si : i < (standsD st).length := by rw [stands_len]; omega
    have sj : j < (standsD st).length := by rw [stands_len]; omega
    have xi : i < xs.length := by omega
    have xj : j < xs.length := by omega
    have gi : xs[i]? = some xs[i] := List.getElem?_eq_getElem xi
    have gj : xs[j]? = some xs[j] := List.getElem?_eq_getElem xj
    have has1 := s1.same _ _ has fun _ z => nomatch z
    refine ⟨_, rfl, as, xs, rfl, .inr (SqT.of has1), fun l nl2 => ?_⟩
    have s2 := s1.new (o := .lst xs) nl2
    have has2 := s2.same _ _ has fun _ z => nomatch z
    refine ⟨_, rfl, _, rfl, .inr (.inl ⟨as, xs, _, _, rfl, rfl, SqT.of has2, atI_nat gj, _, rfl, _, rfl, .inr (.inl ⟨as, xs, _, _, rfl, rfl, SqT.of has2, atI_nat gi, by show 2 ≤ sizeLine; decide, fun t nt => ?_⟩)⟩)⟩
    have t_l : l ≠ t := fun z => by rw [← z, upd_same] at nt; cases nt
    have hl3 : upd (upd H1 l (.lst xs)) t (.tup [xs[j], xs[i]]) l = some (.lst xs) := by rw [upd_ne t_l]; exact upd_same
    have ht3 : upd (upd H1 l (.lst xs)) t (.tup [xs[j], xs[i]]) t = some (.tup [xs[j], xs[i]]) := upd_same
    have s3 := s2.new (o := .tup [xs[j], xs[i]]) nt
    generalize upd (upd H1 l (.lst xs)) t (.tup [xs[j], xs[i]]) = H3 at hl3 ht3 s3
    refine ⟨t, _, rfl, SqT.of ht3, rfl, _, _, rfl, _, rfl, _, rfl, ⟨l, xs, i, i, rfl, rfl, hl3, ix_nat (by omega), ?_⟩⟩
    refine ⟨_, _, rfl, _, rfl, _, rfl, ⟨l, xs.set i xs[j], j, j, rfl, rfl, upd_same, ix_nat (by rw [List.length_set]; omega), rfl, ?_⟩⟩
    refine ⟨_, rfl, l, _, rfl, .inl ⟨SqL.of upd_same, fun t2 nt2 => ?_⟩⟩
    have nl0 : H l = none := s1.none nl2
    have s4 : StayT H (upd (upd H3 l (.lst (xs.set i xs[j]))) l (.lst ((xs.set i xs[j]).set j xs[i]))) := (s3.upd nl0).upd nl0
    refine q _ _ (s4.new nt2) (.tup upd_same ?_ (by rw [stands_len, exchange_len]; exact hls))
    rw [exchange_standsD (fun d hd => held_of (hs d hd)) (by omega) (by omega)]
    have hxs4 := hxs.stay (s4.new (o := .tup ((xs.set i xs[j]).set j xs[i])) nt2)
    have itm : ∀ k (hk : k < xs.length), DV _ xs[k] ((standsD st).getD k .none) := fun k hk => by
      obtain ⟨e, he, hv⟩ := hxs4.get (List.getElem?_eq_getElem hk)
      rw [List.getD_eq_getElem?_getD, he]
      exact hv
    exact DVs.set j (DVs.set i hxs4 (itm j xj)) (itm i xi)
/-! ### _law_short -/
abbrev s_law_short : Stmt := topS 45
abbrev N_law_short : List Str := ["town", "riches", "stands", "pair", "names", "at", "to", "lacks", "name", "worth"]
abbrev P_law_short : List Str := ["town", "riches", "stands", "pair"]
theorem sc_law_short : FnScope N_law_short P_law_short (defScope s_law_short) := ⟨rfl, rfl, rfl, by decide +kernel, rfl, by decide +kernel, by decide +kernel⟩

def sp_law_short : Sp := fun vs H Q _ => ∃ (v v3 v4 : V) (ra : Addr) (hm rs st : List PyData) (ys : List (Str × Int)) (a b : Str) (i j : Nat), vs = [v, .ref ra, v3, v4] ∧ DV H v (.tuple [.tuple hm, .tuple rs]) ∧ H ra = some (.dK (ys.map kvOf)) ∧ ys.Perm (richOf hm st) ∧ DV H v3 (.tuple (standsD st)) ∧ DV H v4 (pairOf (a, b)) ∧ (hm.map entryName)[i]? = some a ∧ (hm.map entryName)[j]? = some b ∧
  townWrong (.tuple [.tuple hm, .tuple rs]) = .none ∧ standingWrong (.tuple [.tuple hm, .tuple rs]) (.tuple st) = .none ∧ ∀ H' r, StayT H H' → DV H' r (shortD hm st i j) → Q r H'
theorem ok_law_short (F : FnP K "_law_short" s_law_short f fd) (fr : Free mg) :
    FnOk P w K mg base (L2.CX P w) 1 f fd P_law_short sp_law_short := by
  refine F.ok sc_law_short (fun vs H Q E h => ?_) (fun cdv A outer s H vs Q E hr h => ⟨_, PSs.nox (pss_cons (ps_setLc (i := 4) (own := [("name", 8), ("worth", 9)]) (g := gTup K 2 (gCons (gName 8) (gCons (gName 9) (gNil)))) (tt := tYes) rfl sc_law_short.nd rfl rfl (sw_true rfl rfl rfl (by decide +kernel)) (pi_tup (pe_ix ix_K (pv 0) pe_int (fun _ _ => rfl))) (blkOk_by (N := N_law_short) (sc := defScope s_law_short) (by decide +kernel)) (fun _ _ _ _ _ => (pg_tup rfl (pgs_cons (pg_name (i := 8) sc_law_short.nd rfl (Or.inl rfl)) (pgs_cons (pg_name (i := 9) sc_law_short.nd rfl (Or.inl rfl)) pgs_nil)))) (fun _ _ _ _ _ => by exact pts_nil) (fun _ _ _ _ _ => by exact (pv 8)))
    (pss_cons (ps_par (i := 5) (j := 6) rfl sc_law_short.nd rfl rfl (by decide) rfl rfl (pa_cons (pe_bm PySem.F.plainAttrs_list PySem.F.slot_list_index PySem.F.type_list_index mt_index (pv 4) (pa_cons (pe_ix ix_D (pv 3) pe_int (fun _ _ => rfl)) pa_nil)) (pa_cons (pe_bm PySem.F.plainAttrs_list PySem.F.slot_list_index PySem.F.type_list_index mt_index (pv 4) (pa_cons (pe_ix ix_D (pv 3) pe_int (fun _ _ => rfl)) pa_nil)) pa_nil)) rfl)
    (pss_cons (ps_if (pt_cmpR op_gt (pe_ix ix_D (pe_ix ix_D (pe_ix ix_K (pv 0) pe_int (fun _ _ => rfl)) (pv 5) (fun _ _ => rfl)) pe_int (fun _ _ => rfl)) (pe_ix ix_D (pe_ix ix_D (pe_ix ix_K (pv 0) pe_int (fun _ _ => rfl)) (pv 6) (fun _ _ => rfl)) pe_int (fun _ _ => rfl)) (nomark _)) (pss_one (ps_par (i := 5) (j := 6) rfl sc_law_short.nd rfl rfl (by decide) rfl rfl (pa_cons (pv 6) (pa_cons (pv 5) pa_nil)) rfl)) pss_nil)
    (pss_cons (ps_set (i := 7) sc_law_short.nd rfl (Or.inl rfl) (pe_op op_sub (pe_ix ix_D (pe_ix ix_D (pe_ix ix_K (pv 0) pe_int (fun _ _ => rfl)) (pv 6) (fun _ _ => rfl)) pe_int (fun _ _ => rfl)) (pe_dget2 (hu_of hr) (pv 1) (pe_ix ix_D (pv 2) (pv 5) (fun _ _ => rfl)) (pe_ix ix_D (pe_ix ix_D (pe_ix ix_K (pv 0) pe_int (fun _ _ => rfl)) (pv 6) (fun _ _ => rfl)) pe_int (fun _ _ => rfl)) ⟨rfl, rfl, rfl, rfl⟩)))
    (pss_one (ps_ret (pe_ix ix_K (pe_lst (pa_cons pe_non (pa_cons (pe_tup (pa_cons (pe_ix ix_D (pv 2) (pv 5) (fun _ _ => rfl)) (pa_cons (pv 7) pa_nil))) pa_nil))) (pe_callTy call_int1 (by rfl) (fr "int" (by decide)) (by decide +kernel) (pa_cons (pe_cmpR op_gt (pv 7) pe_int (nomark _)) pa_nil)) (fun _ _ => rfl)))))))), ?_⟩)
  · obtain ⟨v, v3, v4, ra, hm, rs, st, ys, a, b, i, j, rfl, _⟩ := h; rfl
  · obtain ⟨v, v3, v4, ra, hm, rs, st, ys, a, b, i, j, rfl, hd, hra, perm, hd3, hd4, ia, jb, tw, sw, q⟩ := h
    obtain ⟨_, _, _, e1, e2, len, he, hs, nd⟩ := standing_shape tw sw
    cases e1
    cases e2
    obtain ⟨p, zs, rfl, hp, hzs, _⟩ := dv_tup hd
    cases hzs with
    | @cons va vs0 d0 ds0 ha t0 =>
    obtain ⟨aa, xa, rfl, haa, hxa, hla⟩ := dv_tup ha
    obtain ⟨as, xs, rfl, has, hxs, hls⟩ := dv_tup hd3
    rw [stands_len] at hls
    have l2 := hxs.length
    rw [stands_len] at l2
    refine ⟨_, rfl, .inr (.inl ⟨p, _, _, .ref aa, rfl, rfl, SqT.of hp, atI_nat (j := 0) rfl, ?_⟩)⟩
    have hnd : (hm.map entryName).Nodup := by
      obtain ⟨d0, l0, rs0, e0, bh, br⟩ := town_shape tw
      cases e0
      have ndn := badHome_nodup _ _ _ bh List.nodup_nil
      rwa [List.nil_append] at ndn
    refine ⟨aa, rfl, ⟨xa, SqT.of haa⟩, fun nl nnl => ?_⟩
    refine lc_names haa hxa he hla nnl (fun _ _ => rfl) (fun _ _ => rfl) fun H1 s1 hnl => ?_
    have li := (List.getElem?_eq_some_iff.mp ia).1
    have lj := (List.getElem?_eq_some_iff.mp jb).1
    rw [List.length_map] at li lj
    refine ⟨_, rfl, .inl ⟨rfl, _, SqL.of hnl⟩, _, rfl, _, .str a, 0, hd4.stay s1, rfl, rfl, fun v1 hv1 => ?_⟩
    cases dv_str hv1
    obtain ⟨f1, f2, f3, f4⟩ := idx_facts hnd ia
    refine ⟨nl, _, .str a, i, _, rfl, rfl, SqL.of hnl, rfl, f1, f2, f3, f4, ?_⟩
    refine ⟨_, rfl, .inl ⟨rfl, _, SqL.of hnl⟩, _, rfl, _, .str b, 1, hd4.stay s1, rfl, rfl, fun v2 hv2 => ?_⟩
    cases dv_str hv2
    obtain ⟨f5, f6, f7, f8⟩ := idx_facts hnd jb
    refine ⟨nl, _, .str b, j, _, rfl, rfl, SqL.of hnl, rfl, f5, f6, f7, f8, ?_⟩
    refine ⟨_, _, rfl, ?_⟩
    have hp1 := s1.same _ _ hp fun _ z => nomatch z
    have hha1 := ha.stay s1
    have worth : ∀ k, k < hm.length → ∃ n, hm[k]? = some (.tuple [.str n, .int (worthOf (hm.getD k .none))]) := fun k hk => by
      obtain ⟨n, w0, e2, _⟩ := entry_shape (he _ (List.getElem_mem hk))
      refine ⟨n, ?_⟩
      rw [List.getElem?_eq_getElem hk, getD_at hk, e2]
      rfl
    have at_ : ∀ {R : VK} (k : Nat), k < hm.length → R (.int (worthOf (hm.getD k .none))) H1 → rItemD (.ref aa) (.int (k : Nat)) H1 fun x H2 => rItemD x (.int 1) H2 R := fun {R} k hk r => by
      obtain ⟨n, e⟩ := worth k hk
      refine ⟨_, _, k, hha1, rfl, e, fun v hv => ⟨_, _, 1, hv, rfl, rfl, fun v2 hv2 => ?_⟩⟩
      cases dv_int hv2
      exact r
    have hra1 := s1.same _ _ hra fun _ z => nomatch z
    have nr := richOf_names (hs := hm) (st := st) (by omega)
    have ndr : ((richOf hm st).map Prod.fst).Nodup := by rw [nr]; exact nd
    have ndy : (ys.map Prod.fst).Nodup := (perm.map Prod.fst).nodup_iff.mpr ndr
    refine ⟨_, rfl, .inr (.inl ⟨p, _, _, .ref aa, rfl, rfl, SqT.of hp1, atI_nat (j := 0) rfl, _, rfl, at_ i li ?_⟩)⟩
    refine ⟨_, rfl, .inr (.inl ⟨p, _, _, .ref aa, rfl, rfl, SqT.of hp1, atI_nat (j := 0) rfl, _, rfl, at_ j lj ?_⟩)⟩
    refine ⟨_, _, rfl, rfl, _, rfl, ?_⟩
    by_cases c : worthOf (hm.getD j .none) < worthOf (hm.getD i .none)
    · rw [decide_eq_true c]
      refine iteT ⟨_, rfl, _, rfl, _, _, rfl, ?_⟩
      clear f1 f2 f3 f4 f5 f6 f7 f8
      refine ⟨_, rfl, .inr (.inl ⟨p, _, _, .ref aa, rfl, rfl, SqT.of hp1, atI_nat (j := 0) rfl, _, rfl, at_ i li ?_⟩)⟩
      refine ⟨_, rfl, ra, rfl, .inl ⟨ys.map kvOf, .inl hra1⟩, ?_⟩
      have sj : (standsD st)[j]? = some (.str (entryName (st.getD j .none))) := by
        rw [standsD, List.getElem?_map, List.getElem?_eq_getElem (show j < st.length by omega), getD_at (show j < st.length by omega)]; rfl
      refine ⟨_, rfl, _, rfl, _, _, j, hd3.stay s1, rfl, sj, fun vn hvn => ?_⟩
      have evn := dv_str hvn
      subst evn
      refine ⟨_, rfl, .inr (.inl ⟨p, _, _, .ref aa, rfl, rfl, SqT.of hp1, atI_nat (j := 0) rfl, _, rfl, at_ i li ?_⟩)⟩
      refine ⟨_, .inl ⟨ys.map kvOf, Sum.inr (entryName (st.getD j .none)), .inl hra1, rfl, rfl⟩, ?_⟩
      have fin := short_B (hm := hm) hs (show i < st.length by omega) (show j < st.length by omega) c
      have mj : st.getD j .none ∈ st := by rw [getD_at (show j < st.length by omega)]; exact List.getElem_mem _
      have gj : st[j]? = some (st.getD j .none) := by rw [getD_at (show j < st.length by omega)]; exact List.getElem?_eq_getElem _
      obtain ⟨w, ew, ez⟩ : ∃ w : Int, (valV (ys.map kvOf) (Sum.inr (entryName (st.getD j .none)))).getD (.int (worthOf (hm.getD i .none))) = .int w ∧ lawS (st.getD j .none) (worthOf (hm.getD i .none) - worthOf (hm.getD j .none)) = if 0 < worthOf (hm.getD i .none) - w then .tuple [.str (entryName (st.getD j .none)), .int (worthOf (hm.getD i .none) - w)] else .none := by
        rcases hs _ mj with hu | hu
        · obtain ⟨l0, e0⟩ : ∃ l, st.getD j .none = .tuple l := by
            cases e : st.getD j .none with
            | tuple l => exact ⟨l, rfl⟩
            | _ => rw [e] at hu; cases hu
          have l0e : l0 = [] := by
            cases l0 with
            | nil => rfl
            | cons _ _ => rw [e0] at hu; cases hu
          subst l0e
          rw [e0]
          have vn : valV (ys.map kvOf) (Sum.inr (entryName (.tuple []))) = none := val_none fun z => by
            have z2 : entryName (.tuple []) ∈ (richOf hm st).map Prod.fst := (perm.map Prod.fst).mem_iff.mp z
            rw [nr] at z2
            obtain ⟨d, hdm, hde⟩ := List.mem_map.mp z2
            obtain ⟨hd1, hd2⟩ := List.mem_filter.mp hdm
            rcases hs d hd1 with hu | hu
            · rw [hu] at hd2; cases hd2
            · obtain ⟨n1, w1, rfl, nm, _⟩ := entry_shape hu
              rw [show entryName (.tuple [.str n1, .int w1]) = n1 from rfl] at hde
              rw [hde] at nm; cases nm
          refine ⟨worthOf (hm.getD i .none), by rw [vn]; rfl, ?_⟩
          rw [if_neg (by omega)]; rfl
        · obtain ⟨n1, w1, e1, nm, _⟩ := entry_shape hu
          obtain ⟨n2, hmn⟩ := worth j lj
          rw [e1] at gj ⊢
          have mem := rich_mem hmn gj
          have memy := perm.mem_iff.mpr mem
          have val := val_some (l := ys) (n := n1) (List.mem_map_of_mem (f := Prod.fst) memy)
          rw [wealth_map ndy _ memy] at val
          refine ⟨w1 + worthOf (hm.getD j .none), by rw [show entryName (.tuple [.str n1, .int w1]) = n1 from rfl, val]; rfl, ?_⟩
          show (if 0 < worthOf (hm.getD i .none) - worthOf (hm.getD j .none) - w1 then PyData.tuple [.str n1, .int (worthOf (hm.getD i .none) - worthOf (hm.getD j .none) - w1)] else .none) = _
          rw [show worthOf (hm.getD i .none) - worthOf (hm.getD j .none) - w1 = worthOf (hm.getD i .none) - (w1 + worthOf (hm.getD j .none)) by omega]
          rfl
      rw [ew]
      rw [ez] at fin
      refine ⟨_, _, rfl, rfl, ?_⟩
      have fin2 : shortD hm st i j = if 0 < worthOf (hm.getD i .none) - w then .tuple [.str (entryName (st.getD j .none)), .int (worthOf (hm.getD i .none) - w)] else .none := fin
      clear fin ez ew
      show gName 7 (.int (worthOf (hm.getD i .none) - w)) _ _ _
      generalize worthOf (hm.getD i .none) - w = lk at fin2 ⊢
      refine ⟨_, rfl, _, rfl, _, _, j, hd3.stay s1, rfl, sj, fun vn2 hvn2 => ?_⟩
      have evn2 := dv_str hvn2
      subst evn2
      refine ⟨_, rfl, by show 2 ≤ sizeLine; decide, fun t nt => ⟨by show 2 ≤ sizeLine; decide, fun l nl3 => ?_⟩⟩
      have sT := s1.new (o := .tup [.str (entryName (st.getD j .none)), .int lk]) nt
      have sL := sT.new (o := .lst [.non, .ref t]) nl3
      have ht4 : upd (upd H1 t (.tup [.str (entryName (st.getD j .none)), .int lk])) l (.lst [.non, .ref t]) t = some (.tup [.str (entryName (st.getD j .none)), .int lk]) := by rw [upd_ne (ne_of_none upd_same nl3)]; exact upd_same
      refine ⟨_, rfl, _, _, rfl, rfl, .inr ⟨_, rfl, ?_⟩⟩
      by_cases pos : 0 < lk
      · rw [if_pos pos] at fin2
        rw [decide_eq_true pos, if_pos rfl]
        refine .inl ⟨l, _, _, _, rfl, rfl, SqL.of upd_same, atI_nat (j := 1) rfl, q _ _ sL ?_⟩
        rw [fin2]
        exact .tup ht4 (.two (by cases hvn2 with | str a b => exact .str a b) (.int _)) (by show 2 ≤ 1000; decide)
      · rw [if_neg pos] at fin2
        rw [decide_eq_false pos, if_neg (by decide)]
        refine .inl ⟨l, _, _, _, rfl, rfl, SqL.of upd_same, atI_nat (j := 0) rfl, q _ _ sL ?_⟩
        rw [fin2]
        exact .non
    · rw [decide_eq_false c]
      refine iteF ?_
      clear f1 f2 f3 f4 f5 f6 f7 f8
      refine ⟨_, rfl, .inr (.inl ⟨p, _, _, .ref aa, rfl, rfl, SqT.of hp1, atI_nat (j := 0) rfl, _, rfl, at_ j lj ?_⟩)⟩
      refine ⟨_, rfl, ra, rfl, .inl ⟨ys.map kvOf, .inl hra1⟩, ?_⟩
      have si : (standsD st)[i]? = some (.str (entryName (st.getD i .none))) := by
        rw [standsD, List.getElem?_map, List.getElem?_eq_getElem (show i < st.length by omega), getD_at (show i < st.length by omega)]; rfl
      refine ⟨_, rfl, _, rfl, _, _, i, hd3.stay s1, rfl, si, fun vn hvn => ?_⟩
      have evn := dv_str hvn
      subst evn
      refine ⟨_, rfl, .inr (.inl ⟨p, _, _, .ref aa, rfl, rfl, SqT.of hp1, atI_nat (j := 0) rfl, _, rfl, at_ j lj ?_⟩)⟩
      refine ⟨_, .inl ⟨ys.map kvOf, Sum.inr (entryName (st.getD i .none)), .inl hra1, rfl, rfl⟩, ?_⟩
      have fin := short_A (hm := hm) hs (show i < st.length by omega) (show j < st.length by omega) c
      have mi : st.getD i .none ∈ st := by rw [getD_at (show i < st.length by omega)]; exact List.getElem_mem _
      have gi : st[i]? = some (st.getD i .none) := by rw [getD_at (show i < st.length by omega)]; exact List.getElem?_eq_getElem _
      obtain ⟨w, ew, ez⟩ : ∃ w : Int, (valV (ys.map kvOf) (Sum.inr (entryName (st.getD i .none)))).getD (.int (worthOf (hm.getD j .none))) = .int w ∧ lawS (st.getD i .none) (worthOf (hm.getD j .none) - worthOf (hm.getD i .none)) = if 0 < worthOf (hm.getD j .none) - w then .tuple [.str (entryName (st.getD i .none)), .int (worthOf (hm.getD j .none) - w)] else .none := by
        rcases hs _ mi with hu | hu
        · obtain ⟨l0, e0⟩ : ∃ l, st.getD i .none = .tuple l := by
            cases e : st.getD i .none with
            | tuple l => exact ⟨l, rfl⟩
            | _ => rw [e] at hu; cases hu
          have l0e : l0 = [] := by
            cases l0 with
            | nil => rfl
            | cons _ _ => rw [e0] at hu; cases hu
          subst l0e
          rw [e0]
          have vn : valV (ys.map kvOf) (Sum.inr (entryName (.tuple []))) = none := val_none fun z => by
            have z2 : entryName (.tuple []) ∈ (richOf hm st).map Prod.fst := (perm.map Prod.fst).mem_iff.mp z
            rw [nr] at z2
            obtain ⟨d, hdm, hde⟩ := List.mem_map.mp z2
            obtain ⟨hd1, hd2⟩ := List.mem_filter.mp hdm
            rcases hs d hd1 with hu | hu
            · rw [hu] at hd2; cases hd2
            · obtain ⟨n1, w1, rfl, nm, _⟩ := entry_shape hu
              rw [show entryName (.tuple [.str n1, .int w1]) = n1 from rfl] at hde
              rw [hde] at nm; cases nm
          refine ⟨worthOf (hm.getD j .none), by rw [vn]; rfl, ?_⟩
          rw [if_neg (by omega)]; rfl
        · obtain ⟨n1, w1, e1, nm, _⟩ := entry_shape hu
          obtain ⟨n2, hmn⟩ := worth i li
          rw [e1] at gi ⊢
          have mem := rich_mem hmn gi
          have memy := perm.mem_iff.mpr mem
          have val := val_some (l := ys) (n := n1) (List.mem_map_of_mem (f := Prod.fst) memy)
          rw [wealth_map ndy _ memy] at val
          refine ⟨w1 + worthOf (hm.getD i .none), by rw [show entryName (.tuple [.str n1, .int w1]) = n1 from rfl, val]; rfl, ?_⟩
          show (if 0 < worthOf (hm.getD j .none) - worthOf (hm.getD i .none) - w1 then PyData.tuple [.str n1, .int (worthOf (hm.getD j .none) - worthOf (hm.getD i .none) - w1)] else .none) = _
          rw [show worthOf (hm.getD j .none) - worthOf (hm.getD i .none) - w1 = worthOf (hm.getD j .none) - (w1 + worthOf (hm.getD i .none)) by omega]
          rfl
      rw [ew]
      rw [ez] at fin
      refine ⟨_, _, rfl, rfl, ?_⟩
      have fin2 : shortD hm st i j = if 0 < worthOf (hm.getD j .none) - w then .tuple [.str (entryName (st.getD i .none)), .int (worthOf (hm.getD j .none) - w)] else .none := fin
      clear fin ez ew
      show gName 7 (.int (worthOf (hm.getD j .none) - w)) _ _ _
      generalize worthOf (hm.getD j .none) - w = lk at fin2 ⊢
      refine ⟨_, rfl, _, rfl, _, _, i, hd3.stay s1, rfl, si, fun vn2 hvn2 => ?_⟩
      have evn2 := dv_str hvn2
      subst evn2
      refine ⟨_, rfl, by show 2 ≤ sizeLine; decide, fun t nt => ⟨by show 2 ≤ sizeLine; decide, fun l nl3 => ?_⟩⟩
      have sT := s1.new (o := .tup [.str (entryName (st.getD i .none)), .int lk]) nt
      have sL := sT.new (o := .lst [.non, .ref t]) nl3
      have ht4 : upd (upd H1 t (.tup [.str (entryName (st.getD i .none)), .int lk])) l (.lst [.non, .ref t]) t = some (.tup [.str (entryName (st.getD i .none)), .int lk]) := by rw [upd_ne (ne_of_none upd_same nl3)]; exact upd_same
      refine ⟨_, rfl, _, _, rfl, rfl, .inr ⟨_, rfl, ?_⟩⟩
      by_cases pos : 0 < lk
      · rw [if_pos pos] at fin2
        rw [decide_eq_true pos, if_pos rfl]
        refine .inl ⟨l, _, _, _, rfl, rfl, SqL.of upd_same, atI_nat (j := 1) rfl, q _ _ sL ?_⟩
        rw [fin2]
        exact .tup ht4 (.two (by cases hvn2 with | str a b => exact .str a b) (.int _)) (by show 2 ≤ 1000; decide)
      · rw [if_neg pos] at fin2
        rw [decide_eq_false pos, if_neg (by decide)]
        refine .inl ⟨l, _, _, _, rfl, rfl, SqL.of upd_same, atI_nat (j := 0) rfl, q _ _ sL ?_⟩
        rw [fin2]
        exact .non
/-! ### _law_is_road -/
abbrev s_law_is_road : Stmt := topS 46
abbrev N_law_is_road : List Str := ["town", "pair"]
abbrev P_law_is_road : List Str := ["town", "pair"]
theorem sc_law_is_road : FnScope N_law_is_road P_law_is_road (defScope s_law_is_road) := ⟨rfl, rfl, rfl, by decide +kernel, rfl, by decide +kernel, by decide +kernel⟩

def sp_law_is_road : Sp := fun vs H Q _ => ∃ (v v2 : V) (hm : List PyData) (ps : List (Str × Str)) (d : PyData), vs = [v, v2] ∧ DV H v (.tuple [.tuple hm, .tuple (ps.map pairOf)]) ∧ DV H v2 d ∧ (∀ l, d = .tuple l → 1 ≤ l.length ∧ l.length ≤ 3) ∧ ∀ H', StayT H H' → Q (.bl (decide (∃ p, pairS d = some p ∧ joined ps p))) H'
theorem ok_law_is_road (F : FnP K "_law_is_road" s_law_is_road f fd) (fr : Free mg) :
    FnOk P w K mg base (L2.CX P w) 1 f fd P_law_is_road sp_law_is_road := by
  refine F.ok sc_law_is_road (fun vs H Q E h => ?_) (fun cdv A outer s H vs Q E hr h => ⟨_, PSs.nox (pss_one (ps_ret (pe_and (pe_callB call_isD (by rfl) (fr "isinstance" (by decide)) (by decide +kernel) (pa_cons (pv 1) (pa_cons (pe_ty (n := "tuple") fr) pa_nil))) (pe_one (pe_or (pe_cmpR (op_inP (units1 hr)) (pv 1) (pe_ix ix_D (pv 0) pe_int (fun _ _ => rfl)) rfl) (pe_one (pe_cmpR (op_inP (units1 hr)) (pe_rev3 (pv 1)) (pe_ix ix_D (pv 0) pe_int (fun _ _ => rfl)) rfl))))))), ?_⟩)
  · obtain ⟨v, v2, hm, ps, d, rfl, _⟩ := h; rfl
  · obtain ⟨v, v2, hm, ps, d, rfl, hd, hd2, hl, q⟩ := h
    refine ⟨_, rfl, _, _, d, rfl, hd2, .inr (.inr (.inr rfl)), ?_⟩
    by_cases tp : ∃ l, d = .tuple l
    case neg =>
      have e0 : isD "tuple" d = false := by
        cases d with
        | tuple l => exact absurd ⟨l, rfl⟩ tp
        | _ => simp [isD, isT, tyD]
      have e1 : decide (∃ p, pairS d = some p ∧ joined ps p) = false := decide_eq_false fun ⟨p, e, _⟩ => tp ⟨_, pairS_some e⟩
      rw [e0]
      refine ⟨_, rfl, iteF ?_⟩
      rw [← e1]
      exact q H (StayT.refl H)
    obtain ⟨ds, rfl⟩ := tp
    obtain ⟨l1, l3⟩ := hl ds rfl
    have pf := pairs_facts ds
    refine ⟨true, rfl, iteT ?_⟩
    refine ⟨_, rfl, _, rfl, _, .tuple (ps.map pairOf), 1, hd, rfl, rfl, fun vr hvr => ⟨ds, ps, hd2, hvr, ?_⟩⟩
    have anyP : ∀ e : List PyData, (∀ p, isPairS (.tuple e) p = decide (pairS (.tuple e) = some p)) → (ps.any fun p => isPairS (.tuple e) p) = decide (∃ p ∈ ps, pairS (.tuple e) = some p) := fun e he => by
      rw [Bool.eq_iff_iff, List.any_eq_true, decide_eq_true_iff]
      constructor
      · rintro ⟨p, hp, h⟩
        rw [he p] at h
        exact ⟨p, hp, of_decide_eq_true h⟩
      · rintro ⟨p, hp, h⟩
        exact ⟨p, hp, by rw [he p]; exact decide_eq_true h⟩
    by_cases c1 : ∃ p ∈ ps, pairS (.tuple ds) = some p
    · refine ⟨true, by rw [anyP ds pf, decide_eq_true c1], iteT ?_⟩
      obtain ⟨p, hp, e⟩ := c1
      have := q H (StayT.refl H)
      rwa [decide_eq_true (⟨p, e, .inl hp⟩ : ∃ p, pairS (.tuple ds) = some p ∧ joined ps p)] at this
    refine ⟨false, by rw [anyP ds pf, decide_eq_false c1], iteF ?_⟩
    obtain ⟨a2, xs, rfl, ha2, hxs, hl2⟩ := dv_tup hd2
    have lx := hxs.length
    refine ⟨_, rfl, a2, xs, rfl, SqT.of ha2, by omega, by omega, fun u nu => ?_⟩
    have s1 := (StayT.refl H).new (o := .tup xs.reverse) nu
    refine ⟨_, rfl, _, .tuple (ps.map pairOf), 1, hd.stay s1, rfl, rfl, fun vr2 hvr2 => ⟨ds.reverse, ps, .tup upd_same (dvs_rev (hxs.stay s1)) (by rw [List.length_reverse]; exact hl2), hvr2, ?_⟩⟩
    rw [anyP ds.reverse (pairs_facts _)]
    have eq : decide (∃ p ∈ ps, pairS (.tuple ds.reverse) = some p) = decide (∃ p, pairS (.tuple ds) = some p ∧ joined ps p) := by
      rw [decide_eq_decide]
      constructor
      · rintro ⟨⟨b, a⟩, hp, e⟩
        exact ⟨(a, b), pairS_rev e, .inr hp⟩
      · rintro ⟨⟨a, b⟩, e, hp | hp⟩
        · exact absurd ⟨_, hp, e⟩ c1
        · exact ⟨_, hp, by have := pairS_rev (ds := ds.reverse) (a := b) (b := a) (by rw [List.reverse_reverse]; exact e); exact this⟩
    rw [eq]
    exact q _ s1
end
end WR
namespace WR
open PySem PySem.Spec PyProof.Rows L2
/-- what must be so of the classes -/
structure Refusals (K : PySem.W.Frag) (CE CO CH CR : Addr) : Prop where
  t1 : PySem.W.exmOne K (.ref CO) (.ref CE) = some true
  t2 : PySem.W.exmOne K (.ref CH) (.ref CE) = some true
  t3 : PySem.W.exmOne K (.ref CR) (.ref CE) = some true
  oo : PySem.W.kitOne K (.ref CO) (.ref CO) = some true
  ho : PySem.W.kitOne K (.ref CH) (.ref CO) = some false
  hh : PySem.W.kitOne K (.ref CH) (.ref CH) = some true
  ro : PySem.W.kitOne K (.ref CR) (.ref CO) = some false
  rh : PySem.W.kitOne K (.ref CR) (.ref CH) = some false
  rr : PySem.W.kitOne K (.ref CR) (.ref CR) = some true
  ir : ExcI K CR
section
variable {K : PySem.W.Frag} {CO CH CR : Addr} {D : Ends} {σ : L2.St} {H : Hp} {a dd : Addr}
abbrev tR1 (K : PySem.W.Frag) (CO : Addr) : TS := tIfS (tB (tCB (rIsK K) (tCons (tVar 4) (tCons (tC (.ref CO)) tNil)))) (tRet (tLst (tCons (tC (.str "road")) (tCons (tKept K "pair" (tVar 4)) (tCons (tKept K "at" (tVar 4)) tNil))))) tNext
abbrev tR2 (K : PySem.W.Frag) (CH : Addr) : TS := tIfS (tB (tCB (rIsK K) (tCons (tVar 4) (tCons (tC (.ref CH)) tNil)))) (tRet (tLst (tCons (tC (.str "short")) (tCons (tKept K "hand" (tVar 4)) (tCons (tKept K "lacks" (tVar 4)) (tCons (tKept K "at" (tVar 4)) tNil)))))) tNext
abbrev tR3 (K : PySem.W.Frag) (CR : Addr) : TS := tRet (tLst (tCons (tCB (rIsK K) (tCons (tVar 4) (tCons (tC (.ref CR)) tNil))) (tCons (tOp (fun x y H Q => y = V.non ∧ Q (V.bl (decide (x = V.non))) H) (tVar 4) (tC V.non)) tNil)))
theorem tail_road {x : V} {k : Nat} (h4 : σ[4]? = some (some (.ref a))) (ea : H a = some (ExK (.ref CO) (some dd) a)) (ed : H dd = some (.xd [("at", .int k), ("pair", x)])) (IC : ExcI K CO) (nof : ∀ f, f ∈ ["pair", "at"] → PySem.W.findIn K (.ref CO) (Str.ofString f) = some none)
    (b1 : PySem.W.kitOne K (.ref CO) (.ref CO) = some true) (q : ∀ l, H l = none → D.rt (.ref l) (upd H l (.lst [.str "road", x, .int k]))) : tSeq (tR1 K CO) (tSeq (tR2 K CH) (tR3 K CR)) D σ H := by
  have kept : Kept K H (.ref a) (.ref CO) := .exc ea (.inr ⟨dd, _, rfl, ed⟩) IC
  refine ⟨_, h4, _, _, _, _, true, rfl, .own CO, kept, b1, _, rfl, iteT ?_⟩
  exact ⟨_, h4, a, CO, dd, _, x, rfl, ea, ed, IC, nof _ (by decide), rfl, _, h4, a, CO, dd, _, .int k, rfl, ea, ed, IC, nof _ (by decide), rfl, by show 3 ≤ sizeLine; decide, q⟩
theorem tail_short {n : Str} {c : Int} {k : Nat} (h4 : σ[4]? = some (some (.ref a))) (ea : H a = some (ExK (.ref CH) (some dd) a)) (ed : H dd = some (.xd [("at", .int k), ("lacks", .int c), ("hand", .str n)])) (IC : ExcI K CH) (nof : ∀ f, f ∈ ["hand", "lacks", "at"] → PySem.W.findIn K (.ref CH) (Str.ofString f) = some none)
    (b1 : PySem.W.kitOne K (.ref CH) (.ref CO) = some false) (b2 : PySem.W.kitOne K (.ref CH) (.ref CH) = some true) (q : ∀ l, H l = none → D.rt (.ref l) (upd H l (.lst [.str "short", .str n, .int c, .int k]))) : tSeq (tR1 K CO) (tSeq (tR2 K CH) (tR3 K CR)) D σ H := by
  have kept : Kept K H (.ref a) (.ref CH) := .exc ea (.inr ⟨dd, _, rfl, ed⟩) IC
  refine ⟨_, h4, _, _, _, _, false, rfl, .own CO, kept, b1, _, rfl, iteF ?_⟩
  refine ⟨_, h4, _, _, _, _, true, rfl, .own CH, kept, b2, _, rfl, iteT ?_⟩
  exact ⟨_, h4, a, CH, dd, _, .str n, rfl, ea, ed, IC, nof _ (by decide), rfl, _, h4, a, CH, dd, _, .int c, rfl, ea, ed, IC, nof _ (by decide), rfl, _, h4, a, CH, dd, _, .int k, rfl, ea, ed, IC, nof _ (by decide), rfl, by show 4 ≤ sizeLine; decide, q⟩
theorem tail_row (h4 : σ[4]? = some (some (.ref a))) (ea : H a = some (ExK (.ref CR) none a)) (IC : ExcI K CR)
    (b1 : PySem.W.kitOne K (.ref CR) (.ref CO) = some false) (b2 : PySem.W.kitOne K (.ref CR) (.ref CH) = some false) (b3 : PySem.W.kitOne K (.ref CR) (.ref CR) = some true) (q : ∀ l, H l = none → D.rt (.ref l) (upd H l (.lst [.bl true, .bl false]))) : tSeq (tR1 K CO) (tSeq (tR2 K CH) (tR3 K CR)) D σ H := by
  have kept : Kept K H (.ref a) (.ref CR) := .exc ea (.inl rfl) IC
  refine ⟨_, h4, _, _, _, _, false, rfl, .own CO, kept, b1, _, rfl, iteF ?_⟩
  refine ⟨_, h4, _, _, _, _, false, rfl, .own CH, kept, b2, _, rfl, iteF ?_⟩
  refine ⟨_, h4, _, _, _, _, true, rfl, .own CR, kept, b3, _, h4, rfl, by show 2 ≤ sizeLine; decide, fun l nl => ?_⟩
  have := q l nl
  rwa [show (false : Bool) = decide (V.ref a = V.non) by simp] at this
end
/-- a row is stuck at one place alone -/
theorem same_stuck {hm : List PyData} {ps : List (Str × Str)} {st st1 st2 l : List PyData} {k k2 : Nat} {e e2 : PyData} (hk : l[k]? = some e) (g : goneD hm ps st (l.take k) = some st1) (n1 : ∀ i j, stepD hm ps st1 e ≠ .go i j)
    (hk2 : l[k2]? = some e2) (g2 : goneD hm ps st (l.take k2) = some st2) (n2 : ∀ i j, stepD hm ps st2 e2 ≠ .go i j) : k = k2 := by
  have key : ∀ {a b : Nat} {x : PyData} {s1 s2 : List PyData}, l[a]? = some x → goneD hm ps st (l.take a) = some s1 → (∀ i j, stepD hm ps s1 x ≠ .go i j) → goneD hm ps st (l.take b) = some s2 → ¬ a < b := fun {a b x s1 s2} ha ga na gb lt => by
    have hal := (List.getElem?_eq_some_iff.mp ha).1
    have e : l.take b = l.take a ++ x :: (l.drop (a + 1)).take (b - (a + 1)) := by
      have e1 : l.take (a + 1) = l.take a ++ [x] := by rw [List.take_add_one, ha]; rfl
      have e2 : l.take b = l.take (a + 1) ++ (l.drop (a + 1)).take (b - (a + 1)) := by
        rw [← List.take_add]
        congr 1
        omega
      rw [e2, e1, List.append_assoc]; rfl
    rw [e, gone_append, ga] at gb
    change (match stepD hm ps s1 x with | .go i j => goneD hm ps (exchangeD hm s1 i j) ((l.drop (a + 1)).take (b - (a + 1))) | _ => none) = _ at gb
    cases z : stepD hm ps s1 x with
    | go i j => exact na i j z
    | road => rw [z] at gb; cases gb
    | lack n c => rw [z] at gb; cases gb
  have h1 := key hk g n1 g2
  have h2 := key hk2 g2 n2 g
  omega
section
variable {P : Program} {w : World} {K : PySem.W.Frag} {mg : Str → Option Value} {base : Heap} {f : Addr} {fd : FuncData} {T : Addr}
/-! ### _law_caught -/
abbrev s_law_caught : Stmt := topS 47
abbrev N_law_caught : List Str := ["town", "standing", "row", "by_one", "caught", "e"]
abbrev P_law_caught : List Str := ["town", "standing", "row", "by_one"]
theorem sc_law_caught : FnScope N_law_caught P_law_caught (defScope s_law_caught) := ⟨rfl, rfl, rfl, by decide +kernel, rfl, by decide +kernel, by decide +kernel⟩

/-- what the law tells of what was caught: a step refused at a place -/
def OutAt (hm : List PyData) (ps : List (Str × Str)) (st : List PyData) (e : PyData) (x : V) (k : Nat) (out : List V) : Prop :=
  stepD hm ps st e = .road ∧ out = [.str "road", x, .int k] ∨ ∃ n c, stepD hm ps st e = .lack n c ∧ out = [.str "short", .str n, .int c, .int k]
def sp_law_caught (T : Addr) : Sp := fun vs H Q _ => ∃ (v v2 v3 : V) (b : Bool) (hm : List PyData) (ps : List (Str × Str)) (st : List PyData) (d3 : PyData) (out : List V), vs = [v, v2, v3, .bl b] ∧ DV H v (.tuple [.tuple hm, .tuple (ps.map pairOf)]) ∧ DV H v2 (.tuple st) ∧ DV H v3 d3 ∧ TG T H ∧
  townWrong (.tuple [.tuple hm, .tuple (ps.map pairOf)]) = .none ∧ standingWrong (.tuple [.tuple hm, .tuple (ps.map pairOf)]) (.tuple st) = .none ∧
  (b = true ∧ (∃ (ra : Addr) (x : V) (e : PyData), v3 = .ref ra ∧ H ra = some (.lst [x]) ∧ DV H x e ∧ OutAt hm ps st e x 0 out) ∨
   b = false ∧ (∀ l, d3 ≠ .list l) ∧ out = [.bl true, .bl false] ∨
   b = false ∧ ∃ (ra : Addr) (xs : List V) (l : List PyData) (k : Nat) (x : V) (e : PyData) (st' : List PyData), v3 = .ref ra ∧ H ra = some (.lst xs) ∧ d3 = .list l ∧ xs[k]? = some x ∧ l[k]? = some e ∧ goneD hm ps st (l.take k) = some st' ∧ OutAt hm ps st' e x k out) ∧
  ∀ H' r, StayT H H' → H r = none → H' r = some (.lst out) → Q (.ref r) H'
theorem ok_law_caught {CE CR CO CH : Addr} (F : FnP K "_law_caught" s_law_caught f fd) (fr : Free mg) (g_TownError : mg "TownError" = some (.ref CE)) (C : Refusals K CE CO CH CR)
    (x_NoRow : Exc0 K mg "NoRow" CR) (x_NoRoad : ExcN P w K mg base "NoRoad" ["pair", "at"] 2 (fs2 "pair" "at") CO) (x_Short : ExcN P w K mg base "Short" ["hand", "lacks", "at"] 3 (fs3 "hand" "lacks" "at") CH)
    (c_exchanged : Cal P w K mg base "exchanged" 9 P_exchanged (sp_exchanged T CO CH)) (c_gone : Cal P w K mg base "gone" 8 P_gone (sp_gone T CR CO CH)) :
    FnOk P w K mg base (L2.CX P w) 10 f fd P_law_caught (sp_law_caught T) := by
  have g_NoRow := x_NoRow.nm
  have g_NoRoad := x_NoRoad.nm
  have g_Short := x_Short.nm
  refine F.ok sc_law_caught (fun vs H Q E h => ?_) (fun cdv A outer s H vs Q E hr h => ⟨_, PSs.nox (pss_cons (ps_set (i := 4) sc_law_caught.nd rfl (Or.inl rfl) pe_non)
    (pss_cons (ps_try_keep rfl rfl rfl sc_law_caught.nd rfl rfl rfl rfl (⟨rfl, by decide, Or.inl g_TownError⟩) (i := 5) (j := 4) (tb := fun W => _) (fun W pn xe tk _ => (pss_one (ps_if (truth_K (pv 3) (by intro _; rfl)) (pss_one (ps_expr (pe_X (W := W) c_exchanged (hr.mono (by omega)) tk (pa_cons (pv 0) (pa_cons (pv 1) (pa_cons (pe_ix ix_K (pv 2) pe_int (fun _ _ => rfl)) pa_nil)))))) (pss_one (ps_expr (pe_X (W := W) c_gone (hr.mono (by omega)) tk (pa_cons (pv 0) (pa_cons (pv 1) (pa_cons (pv 2) pa_nil))))))))))
    (pss_cons (ps_if (pt_val (pe_callB call_isK (by rfl) (fr "isinstance" (by decide)) (by decide +kernel) (pa_cons (pv 4) (pa_cons (pe_gR g_NoRoad) pa_nil)))) (pss_one (ps_ret (pe_lst (pa_cons pe_str (pa_cons (pe_kept (pv 4)) (pa_cons (pe_kept (pv 4)) pa_nil)))))) pss_nil)
    (pss_cons (ps_if (pt_val (pe_callB call_isK (by rfl) (fr "isinstance" (by decide)) (by decide +kernel) (pa_cons (pv 4) (pa_cons (pe_gR g_Short) pa_nil)))) (pss_one (ps_ret (pe_lst (pa_cons pe_str (pa_cons (pe_kept (pv 4)) (pa_cons (pe_kept (pv 4)) (pa_cons (pe_kept (pv 4)) pa_nil))))))) pss_nil)
    (pss_one (ps_ret (pe_lst (pa_cons (pe_callB call_isK (by rfl) (fr "isinstance" (by decide)) (by decide +kernel) (pa_cons (pv 4) (pa_cons (pe_gR g_NoRow) pa_nil))) (pa_cons (pe_cmpR op_isN (pv 4) pe_non (nomark _)) pa_nil))))))))), ?_⟩)
  · obtain ⟨v, v2, v3, b, hm, ps, st, d3, out, rfl, _⟩ := h; rfl
  · obtain ⟨v, v2, v3, b, hm, ps, st, d3, out, rfl, hd, hd2, hd3, tg, tw, sw, cs, q⟩ := h
    refine ⟨_, rfl, ?_⟩
    have nofO : ∀ f, f ∈ ["pair", "at"] → PySem.W.findIn K (.ref CO) (Str.ofString f) = some none := fun f hf => x_NoRoad.nof _ (List.mem_map_of_mem (f := Str.ofString) hf)
    have nofH : ∀ f, f ∈ ["hand", "lacks", "at"] → PySem.W.findIn K (.ref CH) (Str.ofString f) = some none := fun f hf => x_Short.nof _ (List.mem_map_of_mem (f := Str.ofString) hf)
    have back : ∀ {H1 : Hp} {o : HO} {a : Addr}, StayT H H1 → H1 a = none → ∀ l, upd H1 a o l = none → Q (.ref l) (upd (upd H1 a o) l (.lst out)) := fun {H1 o a} s1 na l nl => by
      have ne : l ≠ a := fun z => by rw [z, upd_same] at nl; cases nl
      have n1 : H1 l = none := by rw [upd_ne ne] at nl; exact nl
      exact q _ l ((s1.new na).new nl) (s1.none n1) upd_same
    have ok : ∀ {H1 : Hp} {a dd : Addr} {o o2 : HO}, H1 a = none → H1 dd = some o2 → upd H1 a o dd = some o2 := fun {H1 a dd o o2} na e => by rw [upd_ne (ne_of_none e na)]; exact e
    cases b with
    | true =>
      refine ⟨true, rfl, iteT ?_⟩
      rcases cs with ⟨_, ra, x, e, rfl, hra, hx, oa⟩ | ⟨z, _⟩ | ⟨z, _⟩
      case inr.inl => cases z
      case inr.inr => cases z
      refine ⟨_, rfl, _, rfl, _, rfl, .inl ⟨ra, _, _, x, rfl, rfl, SqL.of hra, atI_nat (j := 0) rfl, v, v2, x, e, hm, ps, st, rfl, hd, hd2, hx, tg, tw, sw, ?_, ?_, ?_⟩⟩
      · intro i j sg
        rcases oa with ⟨z, _⟩ | ⟨n, c, z, _⟩ <;> rw [sg] at z <;> cases z
      · intro sd H1 dd s1 hdd
        rcases oa with ⟨_, rfl⟩ | ⟨n, c, z, _⟩
        · exact ⟨C.t1, fun a na => tail_road (k := 0) rfl upd_same (ok na hdd) x_NoRoad.isi nofO C.oo (back s1 na)⟩
        · rw [sd] at z; cases z
      · intro n c sd H1 dd s1 hdd
        rcases oa with ⟨z, _⟩ | ⟨n', c', z, rfl⟩
        · rw [sd] at z; cases z
        · rw [sd] at z
          cases z
          exact ⟨C.t2, fun a na => tail_short (k := 0) rfl upd_same (ok na hdd) x_Short.isi nofH C.ho C.hh (back s1 na)⟩
    | false =>
      refine ⟨false, rfl, iteF ?_⟩
      refine ⟨_, rfl, _, rfl, _, rfl, v, v2, v3, d3, hm, ps, st, rfl, hd, hd2, hd3, tg, tw, sw, ?_, ?_⟩
      · intro nl H1 s1
        rcases cs with ⟨z, _⟩ | ⟨_, _, rfl⟩ | ⟨_, ra, xs, l, k, x, e, st', rfl, hra, rfl, _⟩
        · cases z
        · exact ⟨C.t3, fun a na => tail_row rfl upd_same C.ir C.ro C.rh C.rr (back s1 na)⟩
        · exact absurd rfl (nl l)
      · intro ra xs l ev3 hra ed3
        rcases cs with ⟨z, _⟩ | ⟨_, nl, _⟩ | ⟨_, ra', xs', l', k, x, e, st', ev3', hra', ed3', hxk, hlk, g, oa⟩
        · cases z
        · exact absurd ed3 (nl l)
        subst ev3
        cases ev3'
        subst ed3
        cases ed3'
        rw [hra] at hra'
        cases hra'
        refine ⟨fun st2 g2 => ?_, fun k2 x2 e2 st2 hxk2 hlk2 g2 => ⟨fun sd H1 dd s1 hdd => ?_, fun n c sd H1 dd s1 hdd => ?_⟩⟩
        · exfalso
          have hk := (List.getElem?_eq_some_iff.mp hlk).1
          have el : l = l.take k ++ e :: l.drop (k + 1) := by
            rw [← (List.getElem?_eq_some_iff.mp hlk).2, ← List.drop_eq_getElem_cons hk, List.take_append_drop]
          rw [el, gone_append, g] at g2
          change goneD hm ps st' (e :: l.drop (k + 1)) = some st2 at g2
          rcases oa with ⟨z, _⟩ | ⟨n, c, z, _⟩
          · change (match stepD hm ps st' e with | .go i j => goneD hm ps (exchangeD hm st' i j) (l.drop (k + 1)) | _ => none) = _ at g2
            rw [z] at g2; cases g2
          · change (match stepD hm ps st' e with | .go i j => goneD hm ps (exchangeD hm st' i j) (l.drop (k + 1)) | _ => none) = _ at g2
            rw [z] at g2; cases g2
        · have ek := same_stuck hlk g (by rcases oa with ⟨z, _⟩ | ⟨n, c, z, _⟩ <;> rw [z] <;> intro _ _ q <;> cases q) hlk2 g2 (by rw [sd]; intro _ _ q; cases q)
          subst ek
          rw [hxk] at hxk2
          cases hxk2
          rw [hlk] at hlk2
          cases hlk2
          rw [g] at g2
          cases g2
          rcases oa with ⟨_, rfl⟩ | ⟨n, c, z, _⟩
          · exact ⟨C.t1, fun a na => tail_road rfl upd_same (ok na hdd) x_NoRoad.isi nofO C.oo (back s1 na)⟩
          · rw [sd] at z; cases z
        · have ek := same_stuck hlk g (by rcases oa with ⟨z, _⟩ | ⟨n, c, z, _⟩ <;> rw [z] <;> intro _ _ q <;> cases q) hlk2 g2 (by rw [sd]; intro _ _ q; cases q)
          subst ek
          rw [hxk] at hxk2
          cases hxk2
          rw [hlk] at hlk2
          cases hlk2
          rw [g] at g2
          cases g2
          rcases oa with ⟨z, _⟩ | ⟨n', c', z, rfl⟩
          · rw [sd] at z; cases z
          · rw [sd] at z
            cases z
            exact ⟨C.t2, fun a na => tail_short rfl upd_same (ok na hdd) x_Short.isi nofH C.ho C.hh (back s1 na)⟩
end
end WR
namespace WR
open PySem PySem.Spec PyProof.Rows L2
theorem ltCps_of : ∀ (a b : List Nat), a < b → ltCps a b = true
  | [], [], h => by cases h
  | [], b :: t, _ => rfl
  | a :: r, [], h => by cases h
  | a :: r, b :: t, h => by
    show (decide (a < b) || (a == b && ltCps r t)) = true
    cases h with
    | rel h => simp [h]
    | cons h => simp [ltCps_of r t h]
def leS (a b : Str) : Prop := ¬ b.cps.toList < a.cps.toList
theorem leS_trans {a b c : Str} (h : leS a b) (h2 : leS b c) : leS a c :=
  List.not_lt.mpr (List.le_trans (List.not_lt.mp h) (List.not_lt.mp h2))
theorem leS_anti {a b : Str} (h : leS a b) (h2 : leS b a) : a = b := by
  have e : a.cps.toList = b.cps.toList := List.le_antisymm (List.not_lt.mp h) (List.not_lt.mp h2)
  cases a; cases b
  simp only [Str.mk.injEq]
  exact Array.toList_inj.mp e
theorem rising_pairwise : ∀ (l : List Str) (p : Str), risingS p l = true → (p :: l).Pairwise leS
  | [], p, _ => List.pairwise_singleton _ _
  | x :: r, p, h => by
    have h2 : (!ltCps x.cps.toList p.cps.toList && risingS x r) = true := h
    rw [Bool.and_eq_true, Bool.not_eq_true'] at h2
    have ih := rising_pairwise r x h2.2
    have px : leS p x := fun z => by rw [ltCps_of _ _ z] at h2; cases h2.1
    refine List.pairwise_cons.mpr ⟨fun y hy => ?_, ih⟩
    rcases List.mem_cons.mp hy with rfl | hy
    · exact px
    · exact leS_trans px (List.rel_of_pairwise_cons ih hy)
theorem sorted_pairwise : ∀ {l : List Str}, sortedS l = true → l.Pairwise leS
  | [], _ => List.Pairwise.nil
  | x :: r, h => rising_pairwise r x h
theorem sorted_one {l l2 : List Str} (p : l.Perm l2) (h : sortedS l = true) (h2 : sortedS l2 = true) : l = l2 :=
  List.Perm.eq_of_pairwise (le := leS) (fun a b _ _ x y => leS_anti x y) (sorted_pairwise h) (sorted_pairwise h2) p
theorem badRoad_ne : ∀ (l : List (Str × Str)) (k : Nat) (names : List Str) (pairs : List (Str × Str)), badRoad k names pairs (l.map pairOf) = .none → ∀ p ∈ l, p.1 ≠ p.2
  | [], _, _, _, _, _, h => by cases h
  | (a, b) :: r, k, names, pairs, h, p, hp => by
    rw [List.map_cons] at h
    unfold badRoad at h
    by_cases c : roadOk names pairs (pairOf (a, b)) = true
    · rw [if_pos c] at h
      rcases List.mem_cons.mp hp with rfl | hp
      · have e2 : roadOk names pairs (.tuple [.str a, .str b]) = ((decide (a ∈ names) && decide (b ∈ names)) && (decide (a ≠ b) && (!decide ((a, b) ∈ pairs) && !decide ((b, a) ∈ pairs)))) := rfl
        change roadOk names pairs (.tuple [.str a, .str b]) = true at c
        rw [e2] at c
        simp only [Bool.and_eq_true, decide_eq_true_eq] at c
        exact c.2.1
      · exact badRoad_ne r _ _ _ h p hp
    · rw [if_neg c] at h; cases h
/-- two dicts of the same wealths are equal -/
theorem same_rich {H : Hp} {a b : Addr} {ys zs : List (Str × Int)} (ha : H a = some (.dK (ys.map kvOf))) (hb : H b = some (.dK (zs.map kvOf))) (p : ys.Perm zs) (nd : (zs.map Prod.fst).Nodup) {Q : VK} (q : Q (.bl true) H) : rEqDA (.ref a) (.ref b) H Q := by
  refine ⟨a, b, _, _, rfl, rfl, ha, hb, by rw [List.length_map, List.length_map, p.length_eq], fun kv hkv => ?_, q⟩
  obtain ⟨y, hy, rfl⟩ := List.mem_map.mp hkv
  have hz := p.mem_iff.mp hy
  have v := val_some (l := zs) (n := y.1) (List.mem_map_of_mem (f := Prod.fst) hz)
  rw [wealth_map nd _ hz] at v
  exact ⟨v, rfl⟩
theorem step_go_of {hm : List PyData} {ps : List (Str × Str)} {st : List PyData} {a b : Str} {i j : Nat} (jn : joined ps (a, b)) (nd : (hm.map entryName).Nodup) (ia : (hm.map entryName)[i]? = some a) (jb : (hm.map entryName)[j]? = some b) (z : shortD hm st i j = .none) : stepD hm ps st (pairOf (a, b)) = .go i j := by
  have ei : lackD hm st (a, b) = .none := by
    show shortD _ _ (idxS _ a) (idxS _ b) = _
    rw [idxS_get nd ia, idxS_get nd jb, z]
  show (if joined ps (a, b) then (match lackD hm st (a, b) with | .tuple [.str n, .int c] => Step.lack n c | _ => .go (idxS (hm.map entryName) a) (idxS (hm.map entryName) b)) else _) = _
  rw [if_pos jn, ei, idxS_get nd ia, idxS_get nd jb]
theorem step_lack_of {hm : List PyData} {ps : List (Str × Str)} {st : List PyData} {a b n : Str} {c : Int} {i j : Nat} (jn : joined ps (a, b)) (nd : (hm.map entryName).Nodup) (ia : (hm.map entryName)[i]? = some a) (jb : (hm.map entryName)[j]? = some b) (z : shortD hm st i j = .tuple [.str n, .int c]) : stepD hm ps st (pairOf (a, b)) = .lack n c := by
  have ei : lackD hm st (a, b) = .tuple [.str n, .int c] := by
    show shortD _ _ (idxS _ a) (idxS _ b) = _
    rw [idxS_get nd ia, idxS_get nd jb, z]
  show (if joined ps (a, b) then (match lackD hm st (a, b) with | .tuple [.str n, .int c] => Step.lack n c | _ => .go (idxS (hm.map entryName) a) (idxS (hm.map entryName) b)) else _) = _
  rw [if_pos jn, ei]
theorem step_road_of {hm : List PyData} {ps : List (Str × Str)} {st : List PyData} {e : PyData} (h : ¬ ∃ p, pairS e = some p ∧ joined ps p) : stepD hm ps st e = .road := by
  unfold stepD
  cases z : pairS e with
  | none => rfl
  | some p => exact if_neg fun jn => h ⟨p, z, jn⟩
theorem stand_flat : ∀ {st : List PyData}, (∀ d ∈ st, isUnit d = true ∨ isEntry d = true) → PyData.hasDictAll st = false ∧ PyData.depthAll st ≤ 1
  | [], _ => ⟨rfl, Nat.zero_le _⟩
  | d :: r, h => by
    obtain ⟨i1, i2⟩ := stand_flat fun e he => h e (List.mem_cons_of_mem _ he)
    have hd : d.hasDict = false ∧ d.depth ≤ 1 := by
      rcases held_of (h d List.mem_cons_self) with rfl | ⟨n, c, rfl⟩
      · exact ⟨rfl, by show 1 ≤ 1; decide⟩
      · exact ⟨rfl, by show 1 ≤ 1; decide⟩
    exact ⟨by simp only [PyData.hasDictAll, hd.1, i1, Bool.or_self], by simp only [PyData.depthAll]; omega⟩
theorem eq_stand {neg : Bool} {H : Hp} {x y : V} {st : List PyData} {Q : VK} (hs : ∀ d ∈ st, isUnit d = true ∨ isEntry d = true) (hx : DV H x (.tuple st)) (hy : DV H y (.tuple st)) (q : Q (.bl (!neg)) H) : rEqDD neg x y H Q := by
  obtain ⟨h1, h2⟩ := stand_flat hs
  have hd : (PyData.tuple st).hasDict = false := by simp only [PyData.hasDict, h1]
  have dp : (PyData.tuple st).depth ≤ 64 := by simp only [PyData.depth]; omega
  refine ⟨_, _, hx, hy, hd, hd, dp, dp, ?_⟩
  rw [PySem.SeqAt.eqv_refl _ (hx.canLay hd)]
  cases neg <;> exact q
theorem cutV_upto {xs : List V} {i : Nat} (h : i < xs.length) : cutV xs none (some ((i : Int) + 1)) = xs.take (i + 1) := by
  unfold cutV
  have e1 : HT.sIx xs.length 0 none = 0 := rfl
  have e2 : HT.sIx xs.length xs.length (some ((i : Int) + 1)) = i + 1 := by
    unfold HT.sIx
    simp only
    split <;> omega
  rw [e1, e2]
  rfl
theorem gone_all {hm : List PyData} {ps : List (Str × Str)} {st st' st2 l : List PyData} {k : Nat} {e : PyData} (g : goneD hm ps st l = some st') (hk : l[k]? = some e) (g2 : goneD hm ps st (l.take k) = some st2) : ∃ i j, stepD hm ps st2 e = .go i j := by
  have hkl := (List.getElem?_eq_some_iff.mp hk).1
  have el : l = l.take k ++ e :: l.drop (k + 1) := by
    rw [← (List.getElem?_eq_some_iff.mp hk).2, ← List.drop_eq_getElem_cons hkl, List.take_append_drop]
  rw [el, gone_append, g2] at g
  change (match stepD hm ps st2 e with | .go i j => goneD hm ps (exchangeD hm st2 i j) (l.drop (k + 1)) | _ => none) = _ at g
  cases z : stepD hm ps st2 e with
  | go i j => exact ⟨i, j, rfl⟩
  | road => rw [z] at g; cases g
  | lack n c => rw [z] at g; cases g
theorem only_go {hm : List PyData} {ps : List (Str × Str)} {st : List PyData} {e : PyData} {i j : Nat} (sd : stepD hm ps st e = .go i j) {A : Prop} {B : Str → Int → Prop} : (stepD hm ps st e = .road → A) ∧ (∀ n c, stepD hm ps st e = .lack n c → B n c) :=
  ⟨fun z => (by rw [sd] at z; cases z), fun n c z => (by rw [sd] at z; cases z)⟩
theorem dv_ok {H : Hp} {v : V} {d : PyData} (h : DV H v d) : okV v = true := by cases h <;> rfl
section
variable {P : Program} {w : World} {K : PySem.W.Frag} {mg : Str → Option Value} {base : Heap} {f : Addr} {fd : FuncData} {T : Addr}
/-! ### _law_row_right -/
abbrev s_law_row_right : Stmt := topS 49
abbrev N_law_row_right : List Str := ["town", "standing", "row", "riches", "here", "k", "pair", "stands", "lacking", "there", "told"]
abbrev P_law_row_right : List Str := ["town", "standing", "row"]
theorem sc_law_row_right : FnScope N_law_row_right P_law_row_right (defScope s_law_row_right) := ⟨rfl, rfl, rfl, by decide +kernel, rfl, by decide +kernel, by decide +kernel⟩

def sp_law_row_right (T : Addr) : Sp := fun vs H Q _ => ∃ (v v2 : V) (ra : Addr) (hm : List PyData) (ps : List (Str × Str)) (st : List PyData) (xs : List V) (l : List PyData), vs = [v, v2, .ref ra] ∧ DV H v (.tuple [.tuple hm, .tuple (ps.map pairOf)]) ∧ DV H v2 (.tuple st) ∧ H ra = some (.lst xs) ∧ DVs H xs l ∧ l.length ≤ 100 ∧ (∀ e ∈ l, ∀ t, e = .tuple t → 1 ≤ t.length ∧ t.length ≤ 3) ∧ TG T H ∧ st.length < 64 ∧
  townWrong (.tuple [.tuple hm, .tuple (ps.map pairOf)]) = .none ∧ standingWrong (.tuple [.tuple hm, .tuple (ps.map pairOf)]) (.tuple st) = .none ∧ ∀ H', StayT H H' → Q (.bl true) H'
theorem ok_law_row_right {CT CS CR CO CH : Addr} (F : FnP K "_law_row_right" s_law_row_right f fd) (fr : Free mg) (c_law_wealths : Cal P w K mg base "_law_wealths" 1 P_law_wealths sp_law_wealths) (c_law_is_road : Cal P w K mg base "_law_is_road" 1 P_law_is_road sp_law_is_road) (c_law_caught : Cal P w K mg base "_law_caught" 10 P_law_caught (sp_law_caught T))
    (c_law_stands : Cal P w K mg base "_law_stands" 1 P_law_stands sp_law_stands) (c_law_short : Cal P w K mg base "_law_short" 1 P_law_short sp_law_short) (c_law_placed : Cal P w K mg base "_law_placed" 1 P_law_placed sp_law_placed) (c_law_swapped : Cal P w K mg base "_law_swapped" 1 P_law_swapped sp_law_swapped)
    (c_exchanged : Cal P w K mg base "exchanged" 9 P_exchanged (sp_exchanged T CO CH)) (c_gone : Cal P w K mg base "gone" 8 P_gone (sp_gone T CR CO CH)) (c_wealths : Cal P w K mg base "wealths" 8 P_wealths (sp_wealths T CT CS)) :
    FnOk P w K mg base (L2.CX P w) 11 f fd P_law_row_right (sp_law_row_right T) := by
  refine F.ok sc_law_row_right (fun vs H Q E h => ?_) (fun cdv A outer s H vs Q E hr h => ⟨_, PSs.nox (pss_cons (ps_set (i := 3) sc_law_row_right.nd rfl (Or.inl rfl) (pe_F c_law_wealths (hr.mono (by omega)) (pa_cons (pv 0) (pa_cons (pv 1) pa_nil))))
    (pss_cons (ps_set (i := 4) sc_law_row_right.nd rfl (Or.inl rfl) (pv 1))
    (pss_cons (ps_for PassesOwn.never rfl (pi_enum rfl (fr "enumerate" (by decide)) (pa_cons (pv 2) pa_nil)) (pg_tup rfl (pgs_cons (pg_name (i := 5) sc_law_row_right.nd rfl (Or.inl rfl)) (pgs_cons (pg_name (i := 6) sc_law_row_right.nd rfl (Or.inl rfl)) pgs_nil))) (pss_cons (ps_if (pt_not (pt_val (pe_F c_law_is_road (hr.mono (by omega)) (pa_cons (pv 0) (pa_cons (pv 6) pa_nil))))) (pss_cons (ps_if (pt_cmpR (op_neSame hr.units0) (pe_F c_law_caught (hr.mono (by omega)) (pa_cons (pv 0) (pa_cons (pv 4) (pa_cons (pe_lst (pa_cons (pv 6) pa_nil)) (pa_cons pe_bl pa_nil))))) (pe_lst (pa_cons pe_str (pa_cons (pv 6) (pa_cons pe_int pa_nil)))) (nomark _)) (pss_one (ps_ret pe_bl)) pss_nil)
    (pss_one (ps_ret (pe_cmpR (op_eqSame hr.units0) (pe_F c_law_caught (hr.mono (by omega)) (pa_cons (pv 0) (pa_cons (pv 1) (pa_cons (pv 2) (pa_cons pe_bl pa_nil))))) (pe_lst (pa_cons pe_str (pa_cons (pv 6) (pa_cons (pv 5) pa_nil)))) (nomark _))))) pss_nil)
    (pss_cons (ps_set (i := 7) sc_law_row_right.nd rfl (Or.inl rfl) (pe_F c_law_stands (hr.mono (by omega)) (pa_cons (pv 4) pa_nil)))
    (pss_cons (ps_set (i := 8) sc_law_row_right.nd rfl (Or.inl rfl) (pe_F c_law_short (hr.mono (by omega)) (pa_cons (pv 0) (pa_cons (pv 3) (pa_cons (pv 7) (pa_cons (pv 6) pa_nil))))))
    (pss_cons (ps_if (pt_cmpR op_notN (pv 8) pe_non (nomark _)) (pss_cons (ps_if (pt_cmpR (op_neSame hr.units0) (pe_F c_law_caught (hr.mono (by omega)) (pa_cons (pv 0) (pa_cons (pv 4) (pa_cons (pe_lst (pa_cons (pv 6) pa_nil)) (pa_cons pe_bl pa_nil))))) (pe_op op_cat (pe_op op_cat (pe_lst (pa_cons pe_str pa_nil)) (pe_callTy call_list_of (by rfl) (fr "list" (by decide)) (by decide +kernel) (pa_cons (pv 8) pa_nil))) (pe_lst (pa_cons pe_int pa_nil))) (nomark _)) (pss_one (ps_ret pe_bl)) pss_nil)
    (pss_one (ps_ret (pe_cmpR (op_eqSame hr.units0) (pe_F c_law_caught (hr.mono (by omega)) (pa_cons (pv 0) (pa_cons (pv 1) (pa_cons (pv 2) (pa_cons pe_bl pa_nil))))) (pe_op op_cat (pe_op op_cat (pe_lst (pa_cons pe_str pa_nil)) (pe_callTy call_list_of (by rfl) (fr "list" (by decide)) (by decide +kernel) (pa_cons (pv 8) pa_nil))) (pe_lst (pa_cons (pv 5) pa_nil))) (nomark _))))) pss_nil)
    (pss_cons (ps_set (i := 9) sc_law_row_right.nd rfl (Or.inl rfl) (pe_F c_exchanged (hr.mono (by omega)) (pa_cons (pv 0) (pa_cons (pv 4) (pa_cons (pv 6) pa_nil)))))
    (pss_cons (ps_if (pt_cmpR (op_neDD hr.units) (pv 9) (pe_F c_law_placed (hr.mono (by omega)) (pa_cons (pv 0) (pa_cons (pv 3) (pa_cons (pe_F c_law_swapped (hr.mono (by omega)) (pa_cons (pv 0) (pa_cons (pv 7) (pa_cons (pv 6) pa_nil)))) pa_nil)))) (nomark _)) (pss_one (ps_ret pe_bl)) pss_nil)
    (pss_cons (ps_if (pt_cmpR (op_neDD hr.units) (pe_F c_exchanged (hr.mono (by omega)) (pa_cons (pv 0) (pa_cons (pv 9) (pa_cons (revT_K (pv 6)) pa_nil)))) (pv 4) (nomark _)) (pss_one (ps_ret pe_bl)) pss_nil)
    (pss_cons (ps_if (pt_cmpR (op_neDD hr.units) (pe_F c_gone (hr.mono (by omega)) (pa_cons (pv 0) (pa_cons (pv 1) (pa_cons (pe_slice sl_list (pv 2) po_none (po_some (pe_op op_add (pv 5) pe_int))) pa_nil)))) (pv 9) (nomark _)) (pss_one (ps_ret pe_bl)) pss_nil)
    (pss_one (ps_set (i := 4) sc_law_row_right.nd rfl (Or.inl rfl) (pv 9))))))))))))
    (pss_cons (ps_set (i := 10) sc_law_row_right.nd rfl (Or.inl rfl) (pe_F c_wealths (hr.mono (by omega)) (pa_cons (pv 0) (pa_cons (pv 4) pa_nil))))
    (pss_one (ps_ret (pe_and (pe_cmpR (op_eqDD hr.units) (pe_F c_gone (hr.mono (by omega)) (pa_cons (pv 0) (pa_cons (pv 1) (pa_cons (pv 2) pa_nil)))) (pv 4) (nomark _)) (pe_and (pe_cmpR (op_eq_dictA hr.units0) (pv 10) (pv 3) (nomark _)) (pe_one (pe_cmpR (op_eqSame hr.units0) (pe_callTy (call_listD rfl) (by rfl) (fr "list" (by decide)) (by decide +kernel) (pa_cons (pv 10) pa_nil)) (pe_callB (call_sortedD rfl) (by rfl) (fr "sorted" (by decide)) (by decide +kernel) (pa_cons (pv 3) pa_nil)) (nomark _))))))))))), ?_⟩)
  · obtain ⟨v, v2, ra, hm, ps, st, xs, l, rfl, _⟩ := h; rfl
  · obtain ⟨v, v2, ra, hm, ps, st, xs, l, rfl, hd, hd2, hra, hxs, hl, tup, tg, s64, tw, sw, q⟩ := h
    obtain ⟨_, _, _, e1, e2, len, he, hs, nd⟩ := standing_shape tw sw
    cases e1
    cases e2
    obtain ⟨d0, l0, rs0, e0, bh, br⟩ := town_shape tw
    cases e0
    obtain ⟨ps', e3, hps⟩ := badRoad_is _ _ _ _ br
    have inj : ∀ x y : Str × Str, pairOf x = pairOf y → x = y := fun x y h => by cases x; cases y; cases h; rfl
    cases (List.map_inj_right inj).mp e3
    have hne := badRoad_ne _ _ _ _ br
    have ndn := badHome_nodup _ _ _ bh List.nodup_nil
    rw [List.nil_append] at ndn
    generalize d0 :: l0 = hm at *
    have ndr : ((richOf hm st).map Prod.fst).Nodup := by rw [richOf_names (by omega)]; exact nd
    have lx := hxs.length
    refine ⟨_, rfl, _, rfl, v, v2, hm, _, st, rfl, hd, hd2, s64, tw, sw, fun H1 rd ys s1 nrd hrd perm srt => ?_⟩
    refine ⟨_, rfl, _, rfl, ra, xs, rfl, SqL.of (s1.same _ _ hra fun _ z => nomatch z), ?_⟩
    refine for_it (walk_enum (xs := xs)) (fun i σ G => ∃ (vh : V) (o5 o6 o7 o8 o9 o10 : Option V) (st' : List PyData), σ = [some v, some v2, some (.ref ra), some (.ref rd), some vh, o5, o6, o7, o8, o9, o10] ∧ StayT H1 G ∧ DV G vh (.tuple st') ∧ goneD hm ps st (l.take i) = some st' ∧ (richOf hm st').Perm (richOf hm st)) ?e0 ?eG ?es ?ed
    case e0 => exact ⟨v2, none, none, none, none, none, none, st, rfl, StayT.refl _, hd2.stay s1, rfl, List.Perm.refl _⟩
    case eG =>
      rintro i σ G hi ⟨vh, o5, o6, o7, o8, o9, o10, st', rfl, sG, _⟩
      exact SqL.of ((s1.trans sG).same _ _ hra fun _ z => nomatch z)
    case ed =>
      rintro σ G ⟨vh, o5, o6, o7, o8, o9, o10, st', rfl, sG, hvh, gd, rp⟩
      rw [lx, List.take_length] at gd
      have sw' := gone_stands tw hps _ _ _ sw gd
      obtain ⟨_, _, st1, e1, e2, len', _, hs', _⟩ := standing_shape tw sw'
      cases e1
      cases e2
      have s0 := s1.trans sG
      have hra0 := s0.same _ _ hra fun _ z => nomatch z
      refine ⟨_, rfl, _, rfl, v, _, vh, _, rfl, hd.stay s0, hvh, s0.tabG tg, (fun l e => by cases e; omega), fun hm1 rs1 st1 e1 e2 _ _ G2 td zs s2 ntd htd perm2 srt2 => ?_, fun z => absurd tw z, fun _ z => absurd sw' z⟩
      cases e1
      cases e2
      have s02 := s0.trans s2
      have hxs2 := hxs.stay s02
      have hra2 := s02.same _ _ hra fun _ z => nomatch z
      refine ⟨_, rfl, _, rfl, _, rfl, v, v2, .ref ra, .list l, hm, ps, st, rfl, hd.stay s02, hd2.stay s02, .lst hra2 hxs2 (by omega), s02.tabG tg, tw, sw, fun z => absurd rfl (z l), fun a ys2 l2 ea hra3 el => ⟨fun st2 g2 G3 r s3 hr => ?_, fun k x e st2 hxk hlk g2 => ?_⟩⟩
      · cases el
        rw [gd] at g2
        cases g2
        refine ⟨_, rfl, eq_stand hs' hr (hvh.stay (s2.trans s3)) ?_⟩
        refine ⟨true, rfl, iteT ?_⟩
        have htd3 := s3.same _ _ htd fun _ z => nomatch z
        have hrd3 := (sG.trans (s2.trans s3)).same _ _ hrd fun _ z => nomatch z
        have pz : zs.Perm ys := perm2.trans (rp.trans perm.symm)
        have ndy : (ys.map Prod.fst).Nodup := (perm.map Prod.fst).nodup_iff.mpr ndr
        refine ⟨_, rfl, _, rfl, same_rich htd3 hrd3 pz ndy ⟨true, rfl, iteT ?_⟩⟩
        refine ⟨_, rfl, td, zs.map kvOf, rfl, .inl htd3, fun u nu => ?_⟩
        have hrd4 : upd G3 u (.lst ((zs.map kvOf).map fun kv => kV kv.1)) rd = some (.dK (ys.map kvOf)) := by rw [upd_ne (ne_of_none hrd3 nu)]; exact hrd3
        refine ⟨_, rfl, rd, ys.map kvOf, ys.map Prod.fst, rfl, .inl hrd4, by rw [List.map_map, List.map_map]; rfl, ?_, fun ks t pk sk nt => ?_⟩
        · rw [List.length_map, perm.length_eq]
          have h1 : ((richOf hm st).map Prod.fst).length ≤ st.length := by
            rw [richOf_names (by omega), List.length_map]; exact List.length_filter_le _ _
          rw [List.length_map] at h1
          omega
        · have ek : ks = zs.map Prod.fst := sorted_one (pk.trans (pz.map Prod.fst).symm) sk srt2
          subst ek
          refine ⟨u, t, (zs.map Prod.fst).map V.str, rfl, rfl, ?_, upd_same, ?_, ?_⟩
          · rw [upd_ne (ne_of_none upd_same nt), upd_same, List.map_map, List.map_map]; rfl
          · intro w hw
            obtain ⟨x, _, rfl⟩ := List.mem_map.mp hw
            rfl
          · exact q _ (((s02.trans s3).new nu).new nt)
      · cases el
        obtain ⟨i, j, sg⟩ := gone_all gd hlk g2
        refine ⟨fun z => ?_, fun n c z => ?_⟩
        · rw [sg] at z; cases z
        · rw [sg] at z; cases z
    case es =>
      rintro i y σ G G1 hi ⟨vh, o5, o6, o7, o8, o9, o10, st', rfl, sG, hvh, gd, rp⟩ ⟨tp, y0, x, rfl, ntp, rfl, e0, hx⟩
      cases e0
      obtain ⟨e, hle, hxe0⟩ := hxs.get hx
      have sw' := gone_stands tw hps _ _ _ sw gd
      obtain ⟨_, _, st1, e1, e2, len', _, hs', _⟩ := standing_shape tw sw'
      cases e1
      cases e2
      have held' : ∀ d ∈ st', held d := fun d hd => held_of (hs' d hd)
      have s0 := (s1.trans sG).new (o := .tup [.int (i : Nat), x]) ntp
      have sG1 := sG.new (o := .tup [.int (i : Nat), x]) ntp
      have htp : upd G tp (.tup [.int (i : Nat), x]) tp = some (.tup [.int (i : Nat), x]) := upd_same
      have hvh1 := hvh.stay ((StayT.refl G).new (o := .tup [.int (i : Nat), x]) ntp)
      generalize upd G tp (.tup [.int (i : Nat), x]) = G1 at s0 sG1 htp hvh1
      clear sG hvh ntp
      refine ⟨tp, _, rfl, SqT.of htp, rfl, _, _, rfl, _, _, rfl, rfl, ?_⟩
      have hxe := hxe0.stay s0
      have hd1 := hd.stay s0
      refine ⟨_, rfl, _, rfl, v, x, hm, ps, e, rfl, hd1, hxe, tup e (List.mem_of_getElem? hle), fun G2 s2 => ?_⟩
      have s02 := s0.trans s2
      have hra2 := s02.same _ _ hra fun _ z => nomatch z
      have hxs2 := hxs.stay s02
      have hd2' := hd2.stay s02
      have hvh2 := hvh1.stay s2
      have hx2 := hxe.stay s2
      have hrd2 := (sG1.trans s2).same _ _ hrd fun _ z => nomatch z
      have okx := dv_ok hx2
      have ok1 : okV x = true := okx
      have lxs : l.length ≤ 1000 := by omega
      by_cases rd0 : ∃ p, pairS e = some p ∧ joined ps p
      case neg =>
        have sd := step_road_of (hm := hm) (ps := ps) (st := st') rd0
        rw [decide_eq_false rd0]
        refine ⟨false, rfl, iteT ?_⟩
        refine ⟨_, rfl, _, rfl, _, rfl, by show 1 ≤ sizeLine; decide, fun a na => ?_⟩
        have sa := (StayT.refl G2).new (o := .lst [x]) na
        have s03 := s02.trans sa
        refine ⟨v, vh, .ref a, true, hm, ps, st', .list [e], [.str "road", x, .int 0], rfl, hd.stay s03, hvh2.stay sa, .lst upd_same (.cons (hx2.stay sa) .nil) (by show 1 ≤ 1000; decide), s03.tabG tg, tw, sw', .inl ⟨rfl, a, x, e, rfl, upd_same, hx2.stay sa, .inl ⟨sd, rfl⟩⟩, fun G3 r s3 nr hr => ?_⟩
        have s04 := s03.trans s3
        refine ⟨_, rfl, by show 3 ≤ sizeLine; decide, fun b nb => ?_⟩
        have sb := (StayT.refl G3).new (o := .lst [.str "road", x, .int 0]) nb
        refine ⟨r, b, _, rfl, rfl, (by rw [upd_ne (ne_of_none hr nb)]; exact hr), upd_same, (by intro w hw; simp at hw; rcases hw with rfl | rfl | rfl <;> first | rfl | exact ok1), _, rfl, iteF ?_⟩
        have s05 := s04.trans sb
        refine ⟨_, rfl, _, rfl, _, rfl, v, v2, .ref ra, false, hm, ps, st, .list l, [.str "road", x, .int (i : Nat)], rfl, hd.stay s05, hd2.stay s05, .lst (s05.same _ _ hra fun _ z => nomatch z) (hxs.stay s05) lxs, s05.tabG tg, tw, sw, .inr (.inr ⟨rfl, ra, xs, l, i, x, e, st', rfl, s05.same _ _ hra (fun _ z => nomatch z), rfl, hx, hle, gd, .inl ⟨sd, rfl⟩⟩), fun G4 r2 s6 nr2 hr2 => ?_⟩
        refine ⟨_, rfl, _, rfl, by show 3 ≤ sizeLine; decide, fun b2 nb2 => ?_⟩
        refine ⟨r2, b2, _, rfl, rfl, (by rw [upd_ne (ne_of_none hr2 nb2)]; exact hr2), upd_same, (by intro w hw; simp at hw; rcases hw with rfl | rfl | rfl <;> first | rfl | exact ok1), ?_⟩
        exact q _ ((s05.trans s6).new nb2)
      rw [decide_eq_true rd0]
      refine ⟨true, rfl, iteF ?_⟩
      obtain ⟨⟨a, b⟩, hpe, jn⟩ := rd0
      cases pairS_some hpe
      have mem : a ∈ hm.map entryName ∧ b ∈ hm.map entryName := by
        rcases jn with z | z
        · exact hps _ z
        · exact ⟨(hps _ z).2, (hps _ z).1⟩
      have neab : a ≠ b := by
        rcases jn with z | z
        · exact hne _ z
        · exact fun q => hne _ z q.symm
      obtain ⟨li0, ia⟩ := idxS_lt mem.1
      obtain ⟨lj0, jb⟩ := idxS_lt mem.2
      rw [List.length_map] at li0 lj0
      generalize idxS (hm.map entryName) a = i1 at li0 ia
      generalize idxS (hm.map entryName) b = i2 at lj0 jb
      have ne12 : i1 ≠ i2 := fun z => by rw [z, jb] at ia; exact neab (Option.some.inj ia).symm
      refine ⟨_, rfl, vh, st', rfl, hvh2, hs', fun G3 vst s3 hst3 => ?_⟩
      have s03 := s02.trans s3
      refine ⟨_, rfl, _, rfl, _, rfl, _, rfl, v, vst, x, rd, hm, _, st', ys, a, b, i1, i2, rfl, hd.stay s03, s3.same _ _ hrd2 (fun _ z => nomatch z), perm.trans rp.symm, hst3, hx2.stay s3, ia, jb, tw, sw', fun G4 vl s4 hl4 => ?_⟩
      have s04 := s03.trans s4
      rcases shortD_is hm st' i1 i2 held' with z | ⟨n, c, z⟩
      case inr =>
        have sd := step_lack_of jn ndn ia jb z
        rw [z] at hl4
        obtain ⟨u, us, rfl, hu, hus, _⟩ := dv_tup hl4
        cases hus with
        | @cons va3 vs3 d3 ds3 hva3 t3 =>
        cases t3 with
        | @cons vb4 vs4 d4 ds4 hvb4 t4 =>
        cases t4
        cases dv_str hva3
        cases dv_int hvb4
        refine ⟨_, rfl, rfl, true, by simp, iteT ?_⟩
        refine ⟨_, rfl, _, rfl, _, rfl, by show 1 ≤ sizeLine; decide, fun a1 na => ?_⟩
        have sa := (StayT.refl G4).new (o := .lst [x]) na
        have s05 := s04.trans sa
        refine ⟨v, vh, .ref a1, true, hm, ps, st', .list [pairOf (a, b)], [.str "short", .str n, .int c, .int 0], rfl, hd.stay s05, hvh2.stay (s3.trans (s4.trans sa)), .lst upd_same (.cons (hx2.stay (s3.trans (s4.trans sa))) .nil) (by show 1 ≤ 1000; decide), s05.tabG tg, tw, sw', .inl ⟨rfl, a1, x, pairOf (a, b), rfl, upd_same, hx2.stay (s3.trans (s4.trans sa)), .inr ⟨n, c, sd, rfl⟩⟩, fun G5 r s5 nr hr => ?_⟩
        have s06 := s05.trans s5
        refine ⟨by show 1 ≤ sizeLine; decide, fun b1 nb1 => ?_⟩
        have hu1 : upd G5 b1 (.lst [.str "short"]) u = some (.tup [.str n, .int c]) := by
          have h5 := (sa.trans s5).same _ _ hu fun _ z => nomatch z
          rw [upd_ne (ne_of_none h5 nb1)]; exact h5
        refine ⟨_, rfl, u, _, rfl, .inr (SqT.of hu1), fun b2 nb2 => ?_⟩
        have hb1 : upd (upd G5 b1 (.lst [.str "short"])) b2 (.lst [.str n, .int c]) b1 = some (.lst [.str "short"]) := by rw [upd_ne (ne_of_none upd_same nb2)]; exact upd_same
        have hr1 : upd G5 b1 (.lst [.str "short"]) r = some (.lst [.str "short", .str n, .int c, .int 0]) := by rw [upd_ne (ne_of_none hr nb1)]; exact hr
        have hr2 : upd (upd G5 b1 (.lst [.str "short"])) b2 (.lst [.str n, .int c]) r = some (.lst [.str "short", .str n, .int c, .int 0]) := by rw [upd_ne (ne_of_none hr1 nb2)]; exact hr1
        have s07 := (s06.new (o := .lst [.str "short"]) nb1).new (o := .lst [.str n, .int c]) nb2
        refine ⟨b1, b2, _, _, rfl, rfl, hb1, upd_same, by show 3 ≤ sizeLine; decide, fun b3 nb3 => ?_⟩
        have hr3 : upd (upd (upd G5 b1 (.lst [.str "short"])) b2 (.lst [.str n, .int c])) b3 (.lst ([.str "short"] ++ [.str n, .int c])) r = some (.lst [.str "short", .str n, .int c, .int 0]) := by rw [upd_ne (ne_of_none hr2 nb3)]; exact hr2
        have s08 := s07.new (o := .lst ([.str "short"] ++ [.str n, .int c])) nb3
        have hb3 : upd (upd (upd G5 b1 (.lst [.str "short"])) b2 (.lst [.str n, .int c])) b3 (.lst ([.str "short"] ++ [.str n, .int c])) b3 = some (.lst ([.str "short"] ++ [.str n, .int c])) := upd_same
        have t08 := (((sa.trans s5).new (o := .lst [.str "short"]) nb1).new (o := .lst [.str n, .int c]) nb2).new (o := .lst ([.str "short"] ++ [.str n, .int c])) nb3
        generalize upd (upd (upd G5 b1 (.lst [.str "short"])) b2 (.lst [.str n, .int c])) b3 (.lst ([.str "short"] ++ [.str n, .int c])) = G6 at hr3 s08 hb3 t08
        refine ⟨by show 1 ≤ sizeLine; decide, fun b4 nb4 => ?_⟩
        refine ⟨b3, b4, _, _, rfl, rfl, (by rw [upd_ne (ne_of_none hb3 nb4)]; exact hb3), upd_same, by show 4 ≤ sizeLine; decide, fun b5 nb5 => ?_⟩
        have hr4 : upd G6 b4 (.lst [.int 0]) r = some (.lst [.str "short", .str n, .int c, .int 0]) := by rw [upd_ne (ne_of_none hr3 nb4)]; exact hr3
        refine ⟨r, b5, _, rfl, rfl, (by rw [upd_ne (ne_of_none hr4 nb5)]; exact hr4), upd_same, (by intro w hw; simp at hw; rcases hw with rfl | rfl | rfl | rfl <;> rfl), _, rfl, iteF ?_⟩
        have s09 := (s08.new (o := .lst [.int 0]) nb4).new (o := .lst ([.str "short"] ++ [.str n, .int c] ++ [.int 0])) nb5
        have t09 := (t08.new (o := .lst [.int 0]) nb4).new (o := .lst ([.str "short"] ++ [.str n, .int c] ++ [.int 0])) nb5
        have hu6 := t09.same _ _ hu fun _ z => nomatch z
        generalize upd (upd G6 b4 (.lst [.int 0])) b5 (.lst ([.str "short"] ++ [.str n, .int c] ++ [.int 0])) = G7 at s09 hu6
        clear t09 t08 hr4 hr3 hb3 hr2 hr1 hb1 hu1
        refine ⟨_, rfl, _, rfl, _, rfl, v, v2, .ref ra, false, hm, ps, st, .list l, [.str "short", .str n, .int c, .int (i : Nat)], rfl, hd.stay s09, hd2.stay s09, .lst (s09.same _ _ hra fun _ z => nomatch z) (hxs.stay s09) lxs, s09.tabG tg, tw, sw, .inr (.inr ⟨rfl, ra, xs, l, i, x, pairOf (a, b), st', rfl, s09.same _ _ hra (fun _ z => nomatch z), rfl, hx, hle, gd, .inr ⟨n, c, sd, rfl⟩⟩), fun G8 r2 s10 nr2 hq2 => ?_⟩
        have s11 := s09.trans s10
        refine ⟨by show 1 ≤ sizeLine; decide, fun c1 nc1 => ?_⟩
        have hu7 : upd G8 c1 (.lst [.str "short"]) u = some (.tup [.str n, .int c]) := by
          have h8 := s10.same _ _ hu6 fun _ z => nomatch z
          rw [upd_ne (ne_of_none h8 nc1)]; exact h8
        refine ⟨_, rfl, u, _, rfl, .inr (SqT.of hu7), fun c2 nc2 => ?_⟩
        have hc1 : upd (upd G8 c1 (.lst [.str "short"])) c2 (.lst [.str n, .int c]) c1 = some (.lst [.str "short"]) := by rw [upd_ne (ne_of_none upd_same nc2)]; exact upd_same
        have hq3 : upd G8 c1 (.lst [.str "short"]) r2 = some (.lst [.str "short", .str n, .int c, .int (i : Nat)]) := by rw [upd_ne (ne_of_none hq2 nc1)]; exact hq2
        have hq4 : upd (upd G8 c1 (.lst [.str "short"])) c2 (.lst [.str n, .int c]) r2 = some (.lst [.str "short", .str n, .int c, .int (i : Nat)]) := by rw [upd_ne (ne_of_none hq3 nc2)]; exact hq3
        have s12 := (s11.new (o := .lst [.str "short"]) nc1).new (o := .lst [.str n, .int c]) nc2
        refine ⟨c1, c2, _, _, rfl, rfl, hc1, upd_same, by show 3 ≤ sizeLine; decide, fun c3 nc3 => ?_⟩
        have hq5 : upd (upd (upd G8 c1 (.lst [.str "short"])) c2 (.lst [.str n, .int c])) c3 (.lst ([.str "short"] ++ [.str n, .int c])) r2 = some (.lst [.str "short", .str n, .int c, .int (i : Nat)]) := by rw [upd_ne (ne_of_none hq4 nc3)]; exact hq4
        have s13 := s12.new (o := .lst ([.str "short"] ++ [.str n, .int c])) nc3
        have hc3 : upd (upd (upd G8 c1 (.lst [.str "short"])) c2 (.lst [.str n, .int c])) c3 (.lst ([.str "short"] ++ [.str n, .int c])) c3 = some (.lst ([.str "short"] ++ [.str n, .int c])) := upd_same
        generalize upd (upd (upd G8 c1 (.lst [.str "short"])) c2 (.lst [.str n, .int c])) c3 (.lst ([.str "short"] ++ [.str n, .int c])) = G9 at hq5 s13 hc3
        refine ⟨_, rfl, by show 1 ≤ sizeLine; decide, fun c4 nc4 => ?_⟩
        refine ⟨c3, c4, _, _, rfl, rfl, (by rw [upd_ne (ne_of_none hc3 nc4)]; exact hc3), upd_same, by show 4 ≤ sizeLine; decide, fun c5 nc5 => ?_⟩
        have hq6 : upd G9 c4 (.lst [.int (i : Nat)]) r2 = some (.lst [.str "short", .str n, .int c, .int (i : Nat)]) := by rw [upd_ne (ne_of_none hq5 nc4)]; exact hq5
        refine ⟨r2, c5, _, rfl, rfl, (by rw [upd_ne (ne_of_none hq6 nc5)]; exact hq6), upd_same, (by intro w hw; simp at hw; rcases hw with rfl | rfl | rfl | rfl <;> rfl), ?_⟩
        exact q _ ((s13.new nc4).new nc5)
      case inl =>
        have sd := step_go_of jn ndn ia jb z
        rw [z] at hl4
        cases dv_non hl4
        refine ⟨_, rfl, rfl, false, by simp, iteF ?_⟩
        have hvh4 := hvh2.stay (s3.trans s4)
        have hx4 := hx2.stay (s3.trans s4)
        have sw2 := exchange_stands tw sw' li0 lj0 z
        obtain ⟨_, _, st3, e1, e2, len3, _, hs3, _⟩ := standing_shape tw sw2
        cases e1
        cases e2
        refine ⟨_, rfl, _, rfl, _, rfl, v, vh, x, pairOf (a, b), hm, ps, st', rfl, hd.stay s04, hvh4, hx4, s04.tabG tg, tw, sw', fun i' j' sg G5 vt s5 hvt => ?_, only_go sd⟩
        rw [sd] at sg
        cases sg
        have s05 := s04.trans s5
        have hvh5 := hvh4.stay s5
        have hx5 := hx4.stay s5
        have rp2 := exchange_rich (hm := hm) held' len' li0 lj0
        have gd2 := gone_take hle gd sd
        -- there != _law_placed(..)
        refine ⟨_, rfl, _, rfl, _, rfl, _, rfl, _, rfl, _, rfl, v, vst, x, hm, _, st', a, b, i1, i2, rfl, hd.stay s05, hst3.stay (s4.trans s5), hx5, ia, jb, tw, sw', fun G6 vw s6 hvw => ?_⟩
        have s06 := s05.trans s6
        refine ⟨v, vw, rd, hm, _, exchangeD hm st' i1 i2, ys, rfl, hd.stay s06, (s3.trans (s4.trans (s5.trans s6))).same _ _ hrd2 (fun _ z => nomatch z), perm.trans (rp.symm.trans rp2.symm), hvw, tw, sw2, fun G7 vp s7 hvp => ?_⟩
        have s07 := s06.trans s7
        refine eq_stand hs3 (hvt.stay (s6.trans s7)) hvp ⟨_, rfl, iteF ?_⟩
        -- exchanged(town, there, pair[::-1]) != here
        have hx7 := hx5.stay (s6.trans s7)
        obtain ⟨xa, us, rfl, hxa, hus, _⟩ := dv_tup hx7
        cases hus with
        | @cons va1 vs1 d1 ds1 hva t1 =>
        cases t1 with
        | @cons vb vs2 d2 ds2 hvb t2 =>
        cases t2
        refine ⟨_, rfl, _, rfl, _, rfl, xa, va1, vb, rfl, SqT.of hxa, fun t nt => ?_⟩
        have st8 := (StayT.refl G7).new (o := .tup [vb, va1]) nt
        have s08 := s07.trans st8
        have sd2 : stepD hm ps (exchangeD hm st' i1 i2) (pairOf (b, a)) = .go i2 i1 := step_go_of (by rcases jn with z | z; exact .inr z; exact .inl z) ndn jb ia (short_back hs' (by omega) (by omega) ne12)
        refine ⟨v, vt, .ref t, pairOf (b, a), hm, ps, exchangeD hm st' i1 i2, rfl, hd.stay s08, hvt.stay (s6.trans (s7.trans st8)), .tup upd_same (.two (hvb.stay st8) (hva.stay st8)) (by show 2 ≤ 1000; decide), s08.tabG tg, tw, sw2, fun i' j' sg G9 vb9 s9 hvb9 => ?_, only_go sd2⟩
        rw [sd2] at sg
        cases sg
        rw [exchange_back held' (by omega) (by omega) ne12] at hvb9
        have s09 := s08.trans s9
        refine ⟨_, rfl, eq_stand hs' hvb9 (hvh5.stay (s6.trans (s7.trans (st8.trans s9)))) ⟨_, rfl, iteF ?_⟩⟩
        -- gone(town, standing, row[:k + 1]) != there
        have hra9 := s09.same _ _ hra fun _ z => nomatch z
        have hil : i < xs.length := by omega
        refine ⟨_, rfl, _, rfl, _, rfl, _, rfl, _, _, rfl, rfl, _, rfl, ra, xs, rfl, SqL.of hra9, fun c nc => ?_⟩
        rw [cutV_upto hil]
        have st10 := (StayT.refl G9).new (o := .lst (xs.take (i + 1))) nc
        have s10 := s09.trans st10
        have hxs10 := (hxs.stay s10).take (i + 1)
        refine ⟨v, v2, .ref c, .list (l.take (i + 1)), hm, ps, st, rfl, hd.stay s10, hd2.stay s10, .lst upd_same hxs10 (by rw [List.length_take]; omega), s10.tabG tg, tw, sw, fun z => absurd rfl (z (l.take (i + 1))), fun a2 ys2 l2 ea2 hc2 el2 => ⟨fun st2 g2 G11 r s11 hr => ?_, fun k x2 e2 st2 hxk hlk g2 => ?_⟩⟩
        · cases el2
          rw [gd2] at g2
          cases g2
          have s11' := s10.trans s11
          refine ⟨_, rfl, eq_stand hs3 hr (hvt.stay (s6.trans (s7.trans (st8.trans (s9.trans (st10.trans s11)))))) ⟨_, rfl, iteF ?_⟩⟩
          refine ⟨_, rfl, vt, _, _, _, _, _, _, _, rfl, sG1.trans (s2.trans (s3.trans (s4.trans (s5.trans (s6.trans (s7.trans (st8.trans (s9.trans (st10.trans s11))))))))), hvt.stay (s6.trans (s7.trans (st8.trans (s9.trans (st10.trans s11))))), gd2, rp2.trans rp⟩
        · cases el2
          obtain ⟨i', j', sg⟩ := gone_all gd2 hlk g2
          exact only_go sg
end
end WR
namespace WR
open PySem PySem.Spec PyProof.Rows L2
/-- not deeper than n, no tuple of more than 300 -/
def Fit : Nat → PyData → Prop
  | 0, d => isD "tuple" d = false
  | n + 1, d => ∀ l, d = .tuple l → l.length ≤ 300 ∧ ∀ e ∈ l, Fit n e
theorem Fit.succ : ∀ {n : Nat} {d : PyData}, Fit n d → Fit (n + 1) d
  | 0, d, h => fun l e => by rw [e] at h; cases h
  | n + 1, d, h => fun l e => ⟨(h l e).1, fun x hx => ((h l e).2 x hx).succ⟩
theorem fit_home {d : PyData} (h : HomeD d) : Fit 1 d := by
  obtain ⟨x, _, i, _, rfl⟩ := h
  intro l e
  cases e
  refine ⟨by show 2 ≤ 300; decide, fun y hy => ?_⟩
  simp at hy
  rcases hy with rfl | rfl <;> rfl
theorem fit_pair {d : PyData} (h : PairD d) : Fit 1 d := by
  obtain ⟨x, y, _, _, rfl⟩ := h
  intro l e
  cases e
  refine ⟨by show 2 ≤ 300; decide, fun y hy => ?_⟩
  simp at hy
  rcases hy with rfl | rfl <;> rfl
theorem fit_town {d : PyData} (h : TownD d) : Fit 3 d := by
  obtain ⟨hs, rs, rfl, h1, h2, h3, h4⟩ := h
  intro l e
  cases e
  refine ⟨by show 2 ≤ 300; decide, fun y hy => ?_⟩
  simp at hy
  rcases hy with rfl | rfl
  · intro l e
    cases e
    exact ⟨by omega, fun z hz => fit_home (h3 z hz)⟩
  · intro l e
    cases e
    exact ⟨by omega, fun z hz => fit_pair (h4 z hz)⟩
theorem fit_stand {d : PyData} (h : StandD d) : Fit 3 d := by
  obtain ⟨l0, rfl, h1, h2⟩ := h
  intro l e
  cases e
  refine ⟨by omega, fun y hy => ?_⟩
  rcases h2 y hy with z | rfl
  · exact (fit_home z).succ
  · intro l e
    cases e
    exact ⟨by show 0 ≤ 300; decide, fun _ z => by cases z⟩
/-- the addresses of ms keep what they have -/
def Keep (ms : List Addr) (H H' : Hp) : Prop := ∀ m ∈ ms, H' m = H m
theorem keep_upd {ms : List Addr} {H : Hp} {a : Addr} {o : HO} (n : a ∉ ms) : Keep ms H (upd H a o) := fun m hm => upd_ne fun z => n (by rw [← z]; exact hm)
theorem Keep.refl {ms : List Addr} {H : Hp} : Keep ms H H := fun _ _ => rfl
section
variable {K : PySem.W.Frag} {H : Hp} {p a b : Addr} {xs ys : List V} {l l2 : List PyData} {R : VK}
/-- x[lo:hi] of a tuple -/
theorem slice_any {lo hi : Option Int} {n : Nat} (hp : Purse H p n) (e : wl [p] H a = some (.tup xs)) (ds : DVs (wl [p] H) xs l) (hl : l.length ≤ 300)
    (q : ∀ H' a' xs' l', StayT (wl [p] H) (wl [p] H') → Purse H' p n → wl [p] H' a' = some (.tup xs') → DVs (wl [p] H') xs' l' → l'.length ≤ 300 → R (.ref a') H') : rSlA K (.ref a) lo hi H R := by
  refine ⟨a, xs, rfl, SqT.of (wl_some e).2, fun _ => q H a xs l (StayT.refl _) hp e ds hl, fun _ t nt => ?_⟩
  have tp : t ≠ p := hp.ne nt
  have tn : t ∉ [p] := by simpa using tp
  have st : StayT (wl [p] H) (wl [p] (upd H t (.tup (cutV xs lo hi)))) := wl_alloc nt
  refine q _ t _ ((l.drop (HT.sIx xs.length 0 lo)).take (HT.sIx xs.length xs.length hi - HT.sIx xs.length 0 lo)) st (hp.upd tp) (by rw [wl_upd_out tn, upd_same]; rfl) ((DVs.take _ (DVs.drop _ ds)).stay st) ?_
  rw [List.length_take, List.length_drop]; omega
/-- x + y of tuples -/
theorem cat_any {n : Nat} (hp : Purse H p n) (e : wl [p] H a = some (.tup xs)) (ds : DVs (wl [p] H) xs l) (e2 : wl [p] H b = some (.tup ys)) (ds2 : DVs (wl [p] H) ys l2) (hl : l.length + l2.length ≤ 1000)
    (q : ∀ H' a' xs', StayT (wl [p] H) (wl [p] H') → Purse H' p n → wl [p] H' a' = some (.tup xs') → DVs (wl [p] H') xs' (l ++ l2) → R (.ref a') H') : rCatA K (.ref a) (.ref b) H R := by
  have l1 := ds.length
  have l2' := ds2.length
  refine ⟨a, b, xs, ys, rfl, rfl, SqT.of (wl_some e).2, SqT.of (wl_some e2).2, Nat.le_trans (show xs.length + ys.length ≤ 1000 by omega) (by decide), fun z => ?_, fun _ z => ?_, fun _ _ t nt => ?_⟩
  · subst z
    cases ds
    exact q H b ys (StayT.refl _) hp e2 ds2
  · subst z
    cases ds2
    rw [List.append_nil] at q
    exact q H a xs (StayT.refl _) hp e ds
  · have tp : t ≠ p := hp.ne nt
    have tn : t ∉ [p] := by simpa using tp
    have st : StayT (wl [p] H) (wl [p] (upd H t (.tup (xs ++ ys)))) := wl_alloc nt
    exact q _ t _ st (hp.upd tp) (by rw [wl_upd_out tn, upd_same]) ((ds.append ds2).stay st)
end
end WR
namespace WR
open PySem PySem.Spec PyProof.Rows L2
theorem standsD_flat : ∀ st : List PyData, PyData.hasDictAll (standsD st) = false ∧ PyData.depthAll (standsD st) = 0
  | [] => ⟨rfl, rfl⟩
  | d :: r => by
    obtain ⟨i1, i2⟩ := standsD_flat r
    have e : standsD (d :: r) = .str (entryName d) :: standsD r := rfl
    rw [e]
    exact ⟨by simp only [PyData.hasDictAll, i1]; rfl, by simp only [PyData.depthAll, i2]; rfl⟩
theorem entry_word {H : Hp} {v : V} {x : Str} (h : DV H v (.str x)) : x.length ≤ 1000 ∧ PySem.PyData.strOk x = true := by
  cases h with
  | str a b => exact ⟨a, b⟩
/-- the law's odd things, as they are gathered -/
def OkO (p : Addr) (H : Hp) (rd : Addr) (ra rb : Str) (n : Nat) (Lk : List (Addr × List V)) (G : Hp) (xs : List V) (ds : List PyData) : Prop :=
  Purse G p n ∧ StayT (wl [p] H) (wl [p] G) ∧ wl [p] G rd = some (.tup [.str ra, .str rb]) ∧ (∀ q ∈ Lk, wl [p] G q.1 = some (.lst q.2)) ∧ DVs (wl [p] G) xs ds
section
variable {p rd : Addr} {H G : Hp} {ra rb : Str} {n : Nat} {Lk : List (Addr × List V)} {xs : List V} {ds : List PyData}
theorem OkO.mv {G' : Hp} (h : OkO p H rd ra rb n Lk G xs ds) (s : StayT (wl [p] G) (wl [p] G')) (hp : Purse G' p n) : OkO p H rd ra rb n Lk G' xs ds := by
  obtain ⟨h1, h2, h3, h4, h5⟩ := h
  exact ⟨hp, h2.trans s, s.same _ _ h3 (fun _ z => nomatch z), (fun q hq => s.same _ _ (h4 q hq) fun _ z => nomatch z), h5.stay s⟩
theorem OkO.step {a : Addr} {o : HO} (h : OkO p H rd ra rb n Lk G xs ds) (na : G a = none) : OkO p H rd ra rb n Lk (upd G a o) xs ds :=
  h.mv (wl_alloc na) (h.1.upd (h.1.ne na))
theorem OkO.put {v : V} {d : PyData} (h : OkO p H rd ra rb n Lk G xs ds) (hv : DV (wl [p] G) v d) : OkO p H rd ra rb n Lk G (xs ++ [v]) (ds ++ [d]) := by
  obtain ⟨h1, h2, h3, h4, h5⟩ := h
  exact ⟨h1, h2, h3, h4, h5.snoc hv⟩
theorem OkO.tup {a : Addr} {vs : List V} {es : List PyData} (h : OkO p H rd ra rb n Lk G xs ds) (na : G a = none) (hv : DVs (wl [p] G) vs es) (hl : es.length ≤ 1000) : OkO p H rd ra rb n Lk (upd G a (.tup vs)) (xs ++ [.ref a]) (ds ++ [.tuple es]) :=
  (h.step na).put (dv_made na (by simpa using h.1.ne na) hv hl)
theorem OkO.lst {a : Addr} {vs : List V} {es : List PyData} (h : OkO p H rd ra rb n Lk G xs ds) (na : G a = none) (hv : DVs (wl [p] G) vs es) (hl : es.length ≤ 1000) : OkO p H rd ra rb n Lk (upd G a (.lst vs)) (xs ++ [.ref a]) (ds ++ [.list es]) :=
  (h.step na).put (dv_madeL na (by simpa using h.1.ne na) hv hl)
theorem OkO.keep {a : Addr} {vs : List V} (h : OkO p H rd ra rb n Lk G xs ds) (na : G a = none) : OkO p H rd ra rb n ((a, vs) :: Lk) (upd G a (.lst vs)) xs ds := by
  have ne := h.1.ne na
  obtain ⟨h1, h2, h3, h4, h5⟩ := h.step (o := .lst vs) na
  refine ⟨h1, h2, h3, fun q hq => ?_, h5⟩
  rcases List.mem_cons.mp hq with rfl | hq
  · rw [wl_out (by simpa using ne)]; exact upd_same
  · exact h4 q hq
theorem OkO.at (h : OkO p H rd ra rb n Lk G xs ds) {q : Addr × List V} (hq : q ∈ Lk) : G q.1 = some (.lst q.2) := (wl_some (h.2.2.2.1 q hq)).2
end
mutual
def txtL : PyData → Prop
  | .list l => l ≠ [] ∧ ∀ e ∈ l, ∃ x, e = PyData.str x
  | .tuple l => txtA l
  | _ => True
def txtA : List PyData → Prop
  | [] => True
  | d :: r => txtL d ∧ txtA r
end
theorem strs_wl {G : Hp} {ms : List Addr} : ∀ {vs : List V} {es : List PyData}, DVs G vs es → (∀ e ∈ es, ∃ x, e = PyData.str x) → DVs (wl ms G) vs es
  | _, _, .nil, _ => .nil
  | _, _, .cons h0 t0, st => by
    obtain ⟨x, rfl⟩ := st _ List.mem_cons_self
    exact .cons (by cases h0 with | str a b => exact .str a b) (strs_wl t0 fun e he => st e (List.mem_cons_of_mem _ he))
mutual
theorem odd_wl {G : Hp} {ms : List Addr} (hm : ∀ m ∈ ms, ∃ zs, G m = some (.lst zs) ∧ ∀ z ∈ zs, ∃ a, z = V.ref a) : ∀ {v : V} {d : PyData}, DV G v d → txtL d → DV (wl ms G) v d
  | _, _, .non, _ => .non
  | _, _, .bl b, _ => .bl b
  | _, _, .int i, _ => .int i
  | _, _, .str a b, _ => .str a b
  | _, _, @DV.lst _ a xs ds e h hl, t => by
    obtain ⟨ne, st⟩ := t
    have na : a ∉ ms := fun z => by
      obtain ⟨zs, e2, rf⟩ := hm a z
      rw [e] at e2
      cases e2
      cases h with
      | nil => exact ne rfl
      | @cons v0 vs0 d0 ds0 h0 t0 =>
        obtain ⟨x, rfl⟩ := st d0 List.mem_cons_self
        obtain ⟨b, hb⟩ := rf v0 List.mem_cons_self
        cases dv_str h0
        cases hb
    refine .lst (by rw [wl_out na]; exact e) ?_ hl
    exact strs_wl h st
  | _, _, @DV.tup _ a xs ds e h hl, t => by
    have na : a ∉ ms := fun z => by
      obtain ⟨zs, e2, _⟩ := hm a z
      rw [e] at e2
      cases e2
    exact .tup (by rw [wl_out na]; exact e) (odds_wl hm h t) hl
  | _, _, @DV.dct _ a e, _ => by
    have na : a ∉ ms := fun z => by
      obtain ⟨zs, e2, _⟩ := hm a z
      rw [e] at e2
      cases e2
    exact .dct (by rw [wl_out na]; exact e)
theorem odds_wl {G : Hp} {ms : List Addr} (hm : ∀ m ∈ ms, ∃ zs, G m = some (.lst zs) ∧ ∀ z ∈ zs, ∃ a, z = V.ref a) : ∀ {vs : List V} {ds : List PyData}, DVs G vs ds → txtA ds → DVs (wl ms G) vs ds
  | _, _, .nil, _ => .nil
  | _, _, .cons h t, ⟨a, b⟩ => .cons (odd_wl hm h a) (odds_wl hm t b)
end
def OddD (d : PyData) : Prop := ∀ t, d = .tuple t → 1 ≤ t.length ∧ t.length ≤ 3
theorem odd_tup {l : List PyData} (h1 : 1 ≤ l.length) (h3 : l.length ≤ 3) : OddD (.tuple l) := fun t e => by cases e; exact ⟨h1, h3⟩
theorem odd_lst {l : List PyData} : OddD (.list l) := fun t e => by cases e
section
variable {P : Program} {w : World} {K : PySem.W.Frag} {mg : Str → Option Value} {base : Heap} {f : Addr} {fd : FuncData} {T : Addr}
/-! ### _law_may_right -/
abbrev s_law_may_right : Stmt := topS 50
abbrev N_law_may_right : List Str := ["town", "standing", "riches", "stands", "due", "turn", "told", "road"]
abbrev P_law_may_right : List Str := ["town", "standing"]
theorem sc_law_may_right : FnScope N_law_may_right P_law_may_right (defScope s_law_may_right) := ⟨rfl, rfl, rfl, by decide +kernel, rfl, by decide +kernel, by decide +kernel⟩

def sp_law_may_right (T : Addr) : Sp := fun vs H Q _ => ∃ (v v2 : V) (hm : List PyData) (ps : List (Str × Str)) (st : List PyData), vs = [v, v2] ∧ DV H v (.tuple [.tuple hm, .tuple (ps.map pairOf)]) ∧ DV H v2 (.tuple st) ∧ TG T H ∧ st.length < 64 ∧
  townWrong (.tuple [.tuple hm, .tuple (ps.map pairOf)]) = .none ∧ standingWrong (.tuple [.tuple hm, .tuple (ps.map pairOf)]) (.tuple st) = .none ∧ ∀ H', StayT H H' → Q (.bl true) H'
theorem ok_law_may_right {CT CS : Addr} (F : FnP K "_law_may_right" s_law_may_right f fd) (fr : Free mg) (c_law_wealths : Cal P w K mg base "_law_wealths" 1 P_law_wealths sp_law_wealths)
    (c_law_stands : Cal P w K mg base "_law_stands" 1 P_law_stands sp_law_stands) (c_law_short : Cal P w K mg base "_law_short" 1 P_law_short sp_law_short)
    (c_may : Cal P w K mg base "may" 8 P_may (sp_may T CT CS)) (c_wealths : Cal P w K mg base "wealths" 8 P_wealths (sp_wealths T CT CS)) (c_stands_of : Cal P w K mg base "stands_of" 8 P_stands_of (sp_stands_of T CT CS)) :
    FnOk P w K mg base (L2.CX P w) 9 f fd P_law_may_right (sp_law_may_right T) := by
  refine F.ok sc_law_may_right (fun vs H Q E h => ?_) (fun cdv A outer s H vs Q E hr h => ⟨_, PSs.nox (pss_cons (ps_set (i := 2) sc_law_may_right.nd rfl (Or.inr rfl) (pe_F c_law_wealths (hr.mono (by omega)) (pa_cons (pv 0) (pa_cons (pv 1) pa_nil))))
    (pss_cons (ps_set (i := 3) sc_law_may_right.nd rfl (Or.inr rfl) (pe_F c_law_stands (hr.mono (by omega)) (pa_cons (pv 1) pa_nil)))
    (pss_cons (ps_setLc (i := 4) (own := [("road", 7)]) (g := gName 7) rfl sc_law_may_right.nd rfl rfl (sw_true rfl rfl rfl (by decide +kernel)) (pi_tup (pe_ix ix_K (pv 0) pe_int (fun _ _ => rfl))) (blkOk_by (N := N_law_may_right) (sc := defScope s_law_may_right) (by decide +kernel)) (fun _ _ _ _ _ => (pg_name (i := 7) sc_law_may_right.nd rfl (Or.inl rfl))) (fun _ _ _ _ _ => by exact (pts_one (pt_cmpR op_isN (pe_F c_law_short (hr.mono (by omega)) (pa_cons (pv 0) (pa_cons (pv 2) (pa_cons (pv 3) (pa_cons (pv 7) pa_nil))))) pe_non (nomark _)))) (fun _ _ _ _ _ => by exact (pv 7)))
    (pss_cons (ps_for PassesOwn.never rfl (pi_range1 rfl (fr "range" (by decide)) (pa_cons pe_int pa_nil)) (pg_name (i := 5) sc_law_may_right.nd rfl (Or.inl rfl)) (pss_cons (ps_set (i := 6) sc_law_may_right.nd rfl (Or.inl rfl) (pe_F c_may (hr.mono (by omega)) (pa_cons (pv 0) (pa_cons (pv 1) pa_nil))))
    (pss_cons (ps_if (pt_cmpR (op_neDD hr.units) (pv 6) (pv 4) (nomark _)) (pss_one (ps_ret pe_bl)) pss_nil)
    (pss_one (ps_expr (pe_bm PySem.F.plainAttrs_list PySem.F.slot_list_append PySem.F.type_list_append mt_append (pv 6) (pa_cons pe_non pa_nil)))))))
    (pss_one (ps_ret (pe_and (pe_cmpR (op_eq_dictA hr.units0) (pe_F c_wealths (hr.mono (by omega)) (pa_cons (pv 0) (pa_cons (pv 1) pa_nil))) (pv 2) (nomark _)) (pe_one (pe_cmpR (op_eqDD hr.units) (pe_F c_stands_of (hr.mono (by omega)) (pa_cons (pv 0) (pa_cons (pv 1) pa_nil))) (pv 3) (nomark _)))))))))), ?_⟩)
  · obtain ⟨v, v2, hm, ps, st, rfl, _⟩ := h; rfl
  · obtain ⟨v, v2, hm, ps, st, rfl, hd, hd2, tg, s64, tw, sw, q⟩ := h
    obtain ⟨_, _, _, e1, e2, len, he, hs, nd⟩ := standing_shape tw sw
    cases e1
    cases e2
    obtain ⟨d0, l0, rs0, e0, bh, br⟩ := town_shape tw
    cases e0
    obtain ⟨ps', e3, hps⟩ := badRoad_is _ _ _ _ br
    have inj : ∀ x y : Str × Str, pairOf x = pairOf y → x = y := fun x y h => by cases x; cases y; cases h; rfl
    cases (List.map_inj_right inj).mp e3
    have ndn := badHome_nodup _ _ _ bh List.nodup_nil
    rw [List.nil_append] at ndn
    generalize d0 :: l0 = hm at *
    have ndr : ((richOf hm st).map Prod.fst).Nodup := by rw [richOf_names (by omega)]; exact nd
    refine ⟨_, rfl, _, rfl, v, v2, hm, _, st, rfl, hd, hd2, s64, tw, sw, fun H1 rd ys s1 nrd hrd perm srt => ?_⟩
    refine ⟨_, rfl, v2, st, rfl, hd2.stay s1, hs, fun H2 vst s2 hst => ?_⟩
    have s02 := s1.trans s2
    have hrd2 := s2.same _ _ hrd fun _ z => nomatch z
    have hd2' := hd.stay s02
    obtain ⟨p, zs, rfl, hp, hzs, _⟩ := dv_tup hd2'
    cases hzs with
    | @cons va vs0 dd0 ds0 ha t0 =>
    cases t0 with
    | @cons vb vs1 dd1 ds1 hb t1 =>
    cases t1
    obtain ⟨ab, xb, rfl, hab, hxb, hlb⟩ := dv_tup hb
    have lb := hxb.length
    rw [List.length_map] at lb hlb
    refine ⟨_, rfl, .inr (.inl ⟨p, _, _, .ref ab, rfl, rfl, SqT.of hp, atI_nat (j := 1) rfl, ab, rfl, ⟨_, SqT.of hab⟩, fun D nD => ?_⟩)⟩
    have D_in : D ∈ [D] := List.mem_singleton.mpr rfl
    refine lc_it (g := gName 7) (vs := [7]) (walk_tup (xs := xb)) (fun k G => StayT H2 G ∧ ∃ us, G D = some (.lst us) ∧ DVs (wl [D] G) us (((ps.take k).filter (goes hm st)).map pairOf)) ?h0 ?hG ?hs ?hd
    case h0 => exact ⟨(StayT.refl H2).new nD, [], upd_same, .nil⟩
    case hG => exact fun k G _ h => SqT.of (h.1.same _ _ hab fun _ z => nomatch z)
    case hs =>
      rintro k x _ G hi ⟨sG, us, hD, dus⟩ ⟨rfl, hx⟩
      obtain ⟨d, hd0, hdx0⟩ := hxb.get hx
      rw [List.getElem?_map] at hd0
      obtain ⟨⟨a, b⟩, hpk, rfl⟩ := Option.map_eq_some_iff.mp hd0
      have tk : ps.take (k + 1) = ps.take k ++ [(a, b)] := by rw [List.take_add_one, hpk]; rfl
      obtain ⟨li0, ia⟩ := idxS_lt (hps _ (List.mem_of_getElem? hpk)).1
      obtain ⟨lj0, jb⟩ := idxS_lt (hps _ (List.mem_of_getElem? hpk)).2
      have hw : wl [D] H2 = H2 := wl_none nD
      have sW := wl_stay (ms := [D]) sG
      rw [hw] at sW
      refine ⟨rfl, ?_⟩
      refine ⟨_, rfl, _, rfl, _, rfl, _, rfl, .ref p, vst, x, rd, hm, _, st, ys, a, b, _, _, rfl, hd2'.stay sG, sG.same _ _ hrd2 (fun _ z => nomatch z), perm, hst.stay sG, hdx0.stay sG, ia, jb, tw, sw, fun G2 r s3 hr => ?_⟩
      have eg : goes hm st (a, b) = (match shortD hm st (idxS (hm.map entryName) a) (idxS (hm.map entryName) b) with | .none => true | _ => false) := rfl
      have hD2 := s3.same _ _ hD fun _ z => nomatch z
      have sW3 := wl_stay (ms := [D]) s3
      have lus : us.length ≤ 1000 := by
        have h1 := dus.length
        rw [List.length_map] at h1
        have h2 : ((ps.take k).filter (goes hm st)).length ≤ (ps.take k).length := List.length_filter_le _ _
        rw [List.length_take] at h2
        omega
      rcases shortD_is hm st (idxS (hm.map entryName) a) (idxS (hm.map entryName) b) (fun d hd => held_of (hs d hd)) with z | ⟨n, c, z⟩
      · rw [z] at hr eg
        cases dv_non hr
        refine ⟨rfl, true, by simp, iteT ⟨_, rfl, us, hD2, Nat.lt_of_le_of_lt lus (by decide), (sG.trans s3).upd nD, us ++ [x], upd_same, ?_⟩⟩
        rw [wl_upd_in D_in, tk, List.filter_append, List.map_append, List.filter_cons_of_pos (by rw [eg])]
        exact (dus.stay sW3).snoc (hdx0.stay (sW.trans sW3))
      · rw [z] at hr eg
        obtain ⟨u, _, rfl, _, _, _⟩ := dv_tup hr
        refine ⟨rfl, false, by simp, iteF ⟨sG.trans s3, us, hD2, ?_⟩⟩
        rw [tk, List.filter_append, List.map_append, List.filter_cons_of_neg (by rw [eg]; simp)]
        simpa using dus.stay sW3
    case hd =>
      rintro G ⟨sG, us, hD, dus⟩
      rw [lb, List.take_length] at dus
      have lfs : ((ps.filter (goes hm st)).map pairOf).length ≤ 1000 := by
        rw [List.length_map]
        have := List.length_filter_le (goes hm st) ps
        omega
      have dD : DV G (.ref D) (.list ((ps.filter (goes hm st)).map pairOf)) := .lst hD dus.out lfs
      have flat : ∀ l : List (Str × Str), (PyData.list (l.map pairOf)).hasDict = false ∧ (PyData.list (l.map pairOf)).depth ≤ 64 := fun l => by
        have : PyData.hasDictAll (l.map pairOf) = false ∧ PyData.depthAll (l.map pairOf) ≤ 1 := by
          induction l with
          | nil => exact ⟨rfl, Nat.zero_le _⟩
          | cons p r ih =>
            refine ⟨?_, ?_⟩
            · rw [List.map_cons]; simp only [PyData.hasDictAll, ih.1]; rfl
            · rw [List.map_cons]
              simp only [PyData.depthAll]
              have : (pairOf p).depth ≤ 1 := by show 1 ≤ 1; decide
              omega
        exact ⟨by simp only [PyData.hasDict, this.1], by simp only [PyData.depth]; omega⟩
      obtain ⟨f1, f2⟩ := flat (ps.filter (goes hm st))
      refine ⟨2, rfl, by decide, by decide, ?_⟩
      refine for_it walk_range (fun i σ G2 => ∃ o5 o6 o7 : Option V, σ = [some (.ref p), some v2, some (.ref rd), some vst, some (.ref D), o5, o6, o7] ∧ StayT G G2) ?g0 ?gG ?gs ?gd
      case g0 => exact ⟨none, none, none, rfl, StayT.refl G⟩
      case gG => intros; trivial
      case gd =>
        rintro σ G2 ⟨o5, o6, o7, rfl, sG2⟩
        have s03 := s02.trans (sG.trans sG2)
        have hrdG := (sG.trans sG2).same _ _ hrd2 fun _ z => nomatch z
        refine ⟨_, rfl, _, rfl, .ref p, _, v2, _, rfl, hd.stay s03, hd2.stay s03, s03.tabG tg, (fun l e => by cases e; omega), fun hm1 rs1 st1 e1 e2 _ _ G3 td zs s4 ntd htd perm2 srt2 => ?_, fun z => absurd tw z, fun _ z => absurd sw z⟩
        cases e1
        cases e2
        have ndy : (ys.map Prod.fst).Nodup := (perm.map Prod.fst).nodup_iff.mpr ndr
        refine ⟨_, rfl, same_rich htd (s4.same _ _ hrdG fun _ z => nomatch z) (perm2.trans perm.symm) ndy ⟨true, rfl, iteT ?_⟩⟩
        have s05 := s03.trans s4
        refine ⟨_, rfl, _, rfl, .ref p, _, v2, _, rfl, hd.stay s05, hd2.stay s05, s05.tabG tg, fun st1 e1 _ _ G4 r s6 hr => ?_, fun z => absurd tw z, fun _ z => absurd sw z⟩
        cases e1
        have hst4 := hst.stay ((sG.trans sG2).trans (s4.trans s6))
        have sf := standsD_flat st
        have h1 : (PyData.tuple (standsD st)).hasDict = false := by simp only [PyData.hasDict, sf.1]
        have h2 : (PyData.tuple (standsD st)).depth ≤ 64 := by simp only [PyData.depth, sf.2]; omega
        refine ⟨_, rfl, _, _, hr, hst4, h1, h1, h2, h2, ?_⟩
        rw [show (st.map fun d => PyData.str (entryName d)) = standsD st from rfl, PySem.SeqAt.eqv_refl _ (hst4.canLay h1)]
        exact q _ (s05.trans s6)
      case gs =>
        rintro i x σ _ G2 hi ⟨o5, o6, o7, rfl, sG2⟩ ⟨rfl, rfl⟩
        have s03 := s02.trans (sG.trans sG2)
        refine ⟨_, rfl, _, rfl, .ref p, _, v2, _, rfl, hd.stay s03, hd2.stay s03, s03.tabG tg, fun hm1 ps1 st1 e1 e2 _ _ G3 a zs s4 na ha hzs => ?_, fun z => absurd tw z, fun _ z => absurd sw z⟩
        cases e2
        have e1' : hm = hm1 ∧ ps = ps1 := by
          injection e1 with e1
          injection e1 with a1 a2
          injection a1 with a1
          injection a2 with a2 _
          injection a2 with a2
          exact ⟨a1, (List.map_inj_right inj).mp a2⟩
        obtain ⟨rfl, rfl⟩ := e1'
        have dT : DV G3 (.ref a) (.list ((ps.filter (goes hm st)).map pairOf)) := .lst ha hzs.out lfs
        refine ⟨_, rfl, _, rfl, _, _, dT, dD.stay (sG2.trans s4), f1, f1, f2, f2, _, rfl, ?_⟩
        rw [PySem.SeqAt.eqv_refl _ (dT.canLay f1)]
        refine iteF ?_
        have lz : zs.length ≤ 1000 := by rw [hzs.length]; exact lfs
        refine ⟨_, rfl, .inl ⟨rfl, _, SqL.of ha⟩, a, zs, _, rfl, rfl, ha, Nat.lt_of_le_of_lt lz (by decide), ?_⟩
        exact ⟨_, _, _, rfl, (sG2.trans s4).upd (sG2.none na)⟩
/-! ### _law_odd -/
abbrev s_law_odd : Stmt := topS 51
abbrev N_law_odd : List Str := ["purse", "town", "names", "one", "other", "road", "odd", "name", "worth"]
abbrev P_law_odd : List Str := ["purse", "town"]
theorem sc_law_odd : FnScope N_law_odd P_law_odd (defScope s_law_odd) := ⟨rfl, rfl, rfl, by decide +kernel, rfl, by decide +kernel, by decide +kernel⟩

def sp_law_odd : Sp := fun vs H Q _ => ∃ (p : Addr) (b : Nat) (v : V) (hm : List PyData) (ps : List (Str × Str)), vs = [.ref p, v] ∧ Purse H p b ∧ b ≤ 900000 ∧ DV (wl [p] H) v (.tuple [.tuple hm, .tuple (ps.map pairOf)]) ∧ hm.length ≤ 8 ∧ hm ≠ [] ∧ ps.length ≤ 20 ∧ (∀ e ∈ hm, isEntry e = true) ∧
  ∀ H' r d, StayT (wl [p] H) (wl [p] H') → Purse H' p (b + 4) → DV (wl [p] H') r d → OddD d → txtL d → Q r H'
theorem ok_law_odd (F : FnP K "_law_odd" s_law_odd f fd) (fr : Free mg) (c_law_draw : Cal P w K mg base "_law_draw" 2 P_law_draw sp_law_draw) :
    FnOk P w K mg base (L2.CX P w) 3 f fd P_law_odd sp_law_odd := by
  refine F.ok sc_law_odd (fun vs H Q E h => ?_) (fun cdv A outer s H vs Q E hr h => ⟨_, PSs.nox (pss_cons (ps_setLc (i := 2) (own := [("name", 7), ("worth", 8)]) (g := gTup K 2 (gCons (gName 7) (gCons (gName 8) (gNil)))) (tt := tYes) rfl sc_law_odd.nd rfl rfl (sw_true rfl rfl rfl (by decide +kernel)) (pi_tup (pe_ix ix_K (pv 1) pe_int (fun _ _ => rfl))) (blkOk_by (N := N_law_odd) (sc := defScope s_law_odd) (by decide +kernel)) (fun _ _ _ _ _ => (pg_tup rfl (pgs_cons (pg_name (i := 7) sc_law_odd.nd rfl (Or.inl rfl)) (pgs_cons (pg_name (i := 8) sc_law_odd.nd rfl (Or.inl rfl)) pgs_nil)))) (fun _ _ _ _ _ => by exact pts_nil) (fun _ _ _ _ _ => by exact (pv 7)))
    (pss_cons (ps_par (i := 3) (j := 4) rfl sc_law_odd.nd rfl rfl (by decide) rfl rfl (pa_cons (pe_ix ix_K (pv 2) (pe_F c_law_draw (hr.mono (by omega)) (pa_cons (pv 0) (pa_cons (pe_callB call_len_K (by rfl) (fr "len" (by decide)) (by decide +kernel) (pa_cons (pv 2) pa_nil)) pa_nil))) (fun _ _ => rfl)) (pa_cons (pe_ix ix_K (pv 2) (pe_F c_law_draw (hr.mono (by omega)) (pa_cons (pv 0) (pa_cons (pe_callB call_len_K (by rfl) (fr "len" (by decide)) (by decide +kernel) (pa_cons (pv 2) pa_nil)) pa_nil))) (fun _ _ => rfl)) pa_nil)) rfl)
    (pss_cons (ps_set (i := 5) sc_law_odd.nd rfl (Or.inl rfl) (pe_ix ix_K (pe_op catA_K (pe_ix ix_K (pv 1) pe_int (fun _ _ => rfl)) (pe_tup (pa_cons (pe_tup (pa_cons (pv 3) (pa_cons (pv 4) pa_nil))) pa_nil))) (pe_F c_law_draw (hr.mono (by omega)) (pa_cons (pv 0) (pa_cons (pe_op op_add (pe_callB call_len_K (by rfl) (fr "len" (by decide)) (by decide +kernel) (pa_cons (pe_ix ix_K (pv 1) pe_int (fun _ _ => rfl)) pa_nil)) pe_int) pa_nil))) (fun _ _ => rfl)))
    (pss_cons (ps_set (i := 6) sc_law_odd.nd rfl (Or.inl rfl) (pe_lst (pa_cons pe_non (pa_cons pe_int (pa_cons (pe_tup (pa_cons (pv 3) pa_nil)) (pa_cons (pe_lst (pa_cons (pv 3) (pa_cons (pv 3) pa_nil))) (pa_cons (pe_tup (pa_cons (pv 3) (pa_cons (pv 3) pa_nil))) (pa_cons (pe_tup (pa_cons (pv 3) (pa_cons pe_str pa_nil))) (pa_cons (pe_tup (pa_cons (pv 3) (pa_cons pe_int pa_nil))) (pa_cons (pe_tup (pa_cons (pv 3) (pa_cons (pv 3) (pa_cons (pv 3) pa_nil)))) (pa_cons (pe_callTy call_list_of (by rfl) (fr "list" (by decide)) (by decide +kernel) (pa_cons (pv 5) pa_nil)) pa_nil)))))))))))
    (pss_cons (ps_set (i := 6) sc_law_odd.nd rfl (Or.inl rfl) (pe_op op_cat (pv 6) (pe_lst (pa_cons (pe_op catA_K (pv 5) (pe_tup (pa_cons (pv 3) pa_nil))) (pa_cons (pe_op catA_K (pv 5) (pe_tup (pa_cons (pe_ix ix_K (pv 5) pe_int (fun _ _ => rfl)) pa_nil))) (pa_cons (pe_tup (pa_cons (pv 3) (pa_cons (pv 4) pa_nil))) (pa_cons (pe_tup (pa_cons (pv 4) (pa_cons (pv 3) pa_nil))) (pa_cons (pe_tup (pa_cons (pe_lst (pa_cons (pv 3) pa_nil)) (pa_cons (pv 4) pa_nil))) (pa_cons (pe_tup (pa_cons (pv 3) (pa_cons pe_dnewK pa_nil))) pa_nil)))))))))
    (pss_one (ps_ret (pe_ix ix_K (pe_op op_cat (pv 6) (pe_lst (pa_cons (pe_tup (pa_cons pe_str (pa_cons pe_str pa_nil))) (pa_cons (pe_tup (pa_cons pe_dnewK (pa_cons (pv 3) pa_nil))) pa_nil)))) (pe_F c_law_draw (hr.mono (by omega)) (pa_cons (pv 0) (pa_cons pe_int pa_nil))) (fun _ _ => rfl))))))))), ?_⟩)
  · obtain ⟨p, b, v, hm, ps, rfl, _⟩ := h; rfl
  · obtain ⟨p, b, v, hm, ps, rfl, hp, hb, hd, hl, hne, hpl, he, q⟩ := h
    have pin : p ∈ [p] := List.mem_singleton.mpr rfl
    obtain ⟨q1, zs, rfl, hq, hzs, _⟩ := dv_tup hd
    cases hzs with
    | @cons va vs0 dd0 ds0 ha t0 =>
    cases t0 with
    | @cons vb vs1 dd1 ds1 hbb t1 =>
    cases t1
    obtain ⟨aa, xa, rfl, haa, hxa, hla⟩ := dv_tup ha
    obtain ⟨ab, xb, rfl, hab, hxb, hlb⟩ := dv_tup hbb
    have lb := hxb.length
    rw [List.length_map] at lb
    have lxa := hxa.length
    have haa0 := (wl_some haa).2
    have hq0 := (wl_some hq).2
    refine ⟨_, rfl, .inr (.inl ⟨q1, _, _, .ref aa, rfl, rfl, SqT.of hq0, atI_nat (j := 0) rfl, aa, rfl, ⟨xa, SqT.of haa0⟩, fun nl nnl => ?_⟩)⟩
    refine lc_names haa0 hxa.out he (by omega) nnl (fun _ _ => rfl) (fun _ _ => rfl) fun H1 s1 hnl => ?_
    have nl_p : nl ≠ p := hp.ne nnl
    have hp1 : Purse H1 p b := by
      obtain ⟨n, c, k, e, h1, h2⟩ := hp
      exact ⟨n, c, k, s1.same _ _ e (fun _ z => nomatch z), h1, h2⟩
    have S1 : StayT (wl [p] H) (wl [p] H1) := wl_stay s1
    have hnw : wl [p] H1 nl = some (.lst ((hm.map entryName).map V.str)) := by rw [wl_out (by simpa using nl_p)]; exact hnl
    have ln : ((hm.map entryName).map V.str).length = hm.length := by rw [List.length_map, List.length_map]
    have hpos : 1 ≤ hm.length := by
      cases hm with
      | nil => exact absurd rfl hne
      | cons _ _ => simp
    -- any name of the homes
    have nm : ∀ r : Nat, r < hm.length → ∃ x, ((hm.map entryName).map V.str)[r]? = some (.str x) ∧ ∀ G, StayT (wl [p] H) (wl [p] G) → DV (wl [p] G) (.str x) (.str x) := fun r hr => by
      obtain ⟨n0, w0, e0, _, _⟩ := entry_shape (he _ (List.getElem_mem hr))
      refine ⟨entryName hm[r], by rw [List.getElem?_map, List.getElem?_map, List.getElem?_eq_getElem hr]; rfl, fun G sG => ?_⟩
      obtain ⟨xv, _, hxv⟩ := hxa.got (List.getElem?_eq_getElem hr)
      rw [e0] at hxv ⊢
      obtain ⟨_, _, rfl, _, hz, _⟩ := dv_tup hxv
      cases hz with
      | @cons v0 vs1 d0 ds0 g0 t0 =>
      obtain ⟨h1, h2⟩ := entry_word g0
      exact .str h1 h2
    refine ⟨_, rfl, _, rfl, _, rfl, nl, _, rfl, .inl (SqL.of hnl), p, hm.length, b, by rw [ln]; rfl, hp1, by omega, hpos, by omega, fun H2 r1 t2 hp2 hr1 => ?_⟩
    obtain ⟨one, e1, w1⟩ := nm r1 hr1
    have S2 := S1.trans (wl_draw t2 pin)
    have hnl2 := drawn_keeps t2 nl_p hnl
    refine .inl ⟨nl, _, _, _, rfl, rfl, SqL.of hnl2, atI_nat e1, ?_⟩
    refine ⟨_, rfl, _, rfl, _, rfl, nl, _, rfl, .inl (SqL.of hnl2), p, hm.length, b + 1, by rw [ln]; rfl, hp2, by omega, hpos, by omega, fun H3 r2 t3 hp3 hr2 => ?_⟩
    obtain ⟨other, e2, w2⟩ := nm r2 hr2
    have S3 := S2.trans (wl_draw t3 pin)
    have hnl3 := drawn_keeps t3 nl_p hnl2
    refine .inl ⟨nl, _, _, _, rfl, rfl, SqL.of hnl3, atI_nat e2, ?_⟩
    refine ⟨_, _, rfl, ?_⟩
    have hq3 := (wl_some (S3.same _ _ hq fun _ z => nomatch z)).2
    have hab3 := (wl_some (S3.same _ _ hab fun _ z => nomatch z)).2
    refine ⟨_, rfl, .inr (.inl ⟨q1, _, _, .ref ab, rfl, rfl, SqT.of hq3, atI_nat (j := 1) rfl, ?_⟩)⟩
    refine ⟨_, rfl, _, rfl, by show 2 ≤ sizeLine; decide, fun u nu => ⟨by show 1 ≤ sizeLine; decide, fun t nt => ?_⟩⟩
    have t4 := wl_alloc (ms := [p]) (o := .tup [.str one, .str other]) nu
    have hp4 := hp3.upd (o := .tup [.str one, .str other]) (hp3.ne nu)
    have du : DV (wl [p] (upd H3 u (.tup [.str one, .str other]))) (.ref u) (pairOf (one, other)) := dv_made nu (by simpa using hp3.ne nu) (.two (w1 _ S3) (w2 _ S3)) (by show 2 ≤ 1000; decide)
    have S4 := S3.trans t4
    have hab4 := t4.same _ _ (S3.same _ _ hab fun _ z => nomatch z) fun _ z => nomatch z
    have hq4 := t4.same _ _ (S3.same _ _ hq fun _ z => nomatch z) fun _ z => nomatch z
    generalize upd H3 u (.tup [.str one, .str other]) = H4 at t4 hp4 du S4 hab4 hq4 nt
    have t5 := wl_alloc (ms := [p]) (o := .tup [.ref u]) nt
    have hp5 := hp4.upd (o := .tup [.ref u]) (hp4.ne nt)
    have ht5 : wl [p] (upd H4 t (.tup [.ref u])) t = some (.tup [.ref u]) := by rw [wl_out (by simpa using hp4.ne nt)]; exact upd_same
    have hab5 := t5.same _ _ hab4 fun _ z => nomatch z
    have hq5 := t5.same _ _ hq4 fun _ z => nomatch z
    have du5 := du.stay t5
    have S5 := S4.trans t5
    generalize upd H4 t (.tup [.ref u]) = H5 at t5 hp5 ht5 hab5 hq5 du5 S5
    refine cat_any hp5 hab5 (hxb.stay S5) ht5 (.one du5) (by simp; omega) fun H6 ca xs6 t6 hp6 hca6 dxs6 => ?_
    have S6 := S5.trans t6
    have hq6 := t6.same _ _ hq5 fun _ z => nomatch z
    have hab6 := t6.same _ _ hab5 fun _ z => nomatch z
    refine ⟨_, rfl, _, rfl, .inr (.inl ⟨q1, _, _, .ref ab, rfl, rfl, SqT.of (wl_some hq6).2, atI_nat (j := 1) rfl, ab, xb, rfl, .inr (SqT.of (wl_some hab6).2), _, _, rfl, rfl, p, ps.length + 1, b + 1 + 1, (by rw [lb]; push_cast; rfl), hp6, by omega, by omega, by omega, fun H7 r3 t7 hp7 hr3 => ?_⟩)⟩
    have S7 := S6.trans (wl_draw t7 pin)
    have hca7 := (wl_draw t7 pin).same _ _ hca6 fun _ z => nomatch z
    have dxs7 := dxs6.stay (wl_draw t7 pin)
    have lx6 := dxs7.length
    rw [List.length_append, List.length_map] at lx6
    have hr3' : r3 < xs6.length := by simp at lx6; omega
    obtain ⟨d7, hd7, dv7⟩ := dxs7.get (List.getElem?_eq_getElem hr3')
    have pr7 : ∃ pq : Str × Str, d7 = pairOf pq := by
      have m := List.mem_of_getElem? hd7
      rcases List.mem_append.mp m with m | m
      · obtain ⟨pq, _, rfl⟩ := List.mem_map.mp m
        exact ⟨pq, rfl⟩
      · exact ⟨(one, other), List.mem_singleton.mp m⟩
    obtain ⟨⟨sa, sb⟩, rfl⟩ := pr7
    refine .inr (.inl ⟨ca, _, _, _, rfl, rfl, SqT.of (wl_some hca7).2, atI_nat (List.getElem?_eq_getElem hr3'), ?_⟩)
    obtain ⟨rd, us, erd, hrd7, hus, _⟩ := dv_tup dv7
    rw [erd]
    cases hus with
    | @cons va1 vs1 d1 ds1 hva t1 =>
    cases t1 with
    | @cons vb1 vs2 d2 ds2 hvb t2' =>
    cases t2'
    cases dv_str hva
    cases dv_str hvb
    obtain ⟨la1, la2⟩ := entry_word hva
    obtain ⟨lb1, lb2⟩ := entry_word hvb
    have wa : ∀ G : Hp, DV G (.str sa) (.str sa) := fun G => .str la1 la2
    have wb : ∀ G : Hp, DV G (.str sb) (.str sb) := fun G => .str lb1 lb2
    obtain ⟨lo1, lo2⟩ := entry_word (w1 _ S3)
    obtain ⟨lt1, lt2⟩ := entry_word (w2 _ S3)
    have wo : ∀ G : Hp, DV G (.str one) (.str one) := fun G => .str lo1 lo2
    have wt : ∀ G : Hp, DV G (.str other) (.str other) := fun G => .str lt1 lt2
    have wn : ∀ G : Hp, DV G (.str "nohome") (.str "nohome") := fun G => .str (by decide +kernel) (by decide +kernel)
    have A0 : OkO p H rd sa sb (b + 1 + 1 + 1) [] H7 [] [] := ⟨hp7, S7, hrd7, (fun _ z => by cases z), .nil⟩
    clear hrd7 dv7 hca7 dxs7 hp7 hva hvb
    have B1 := (A0.put (d := .none) .non).put (d := .int 5) (.int 5)
    refine ⟨_, rfl, by show 1 ≤ sizeLine; decide, fun a2 na2 => ?_⟩
    have B2 := B1.tup na2 (vs := [.str one]) (es := [.str one]) (.cons (wo _) .nil) (by show 1 ≤ 1000; decide)
    generalize upd H7 a2 (.tup [.str one]) = G2 at B2
    refine ⟨_, rfl, _, rfl, by show 2 ≤ sizeLine; decide, fun a3 na3 => ?_⟩
    have B3 := B2.lst na3 (vs := [.str one, .str one]) (es := [.str one, .str one]) (.cons (wo _) (.cons (wo _) .nil)) (by show 2 ≤ 1000; decide)
    generalize upd G2 a3 (.lst [.str one, .str one]) = G3 at B3
    refine ⟨_, rfl, _, rfl, by show 2 ≤ sizeLine; decide, fun a4 na4 => ?_⟩
    have B4 := B3.tup na4 (vs := [.str one, .str one]) (es := [.str one, .str one]) (.cons (wo _) (.cons (wo _) .nil)) (by show 2 ≤ 1000; decide)
    generalize upd G3 a4 (.tup [.str one, .str one]) = G4 at B4
    refine ⟨_, rfl, by show 2 ≤ sizeLine; decide, fun a5 na5 => ?_⟩
    have B5 := B4.tup na5 (vs := [.str one, .str "nohome"]) (es := [.str one, .str "nohome"]) (.cons (wo _) (.cons (wn _) .nil)) (by show 2 ≤ 1000; decide)
    generalize upd G4 a5 (.tup [.str one, .str "nohome"]) = G5 at B5
    refine ⟨_, rfl, by show 2 ≤ sizeLine; decide, fun a6 na6 => ?_⟩
    have B6 := B5.tup na6 (vs := [.str one, .int 5]) (es := [.str one, .int 5]) (.cons (wo _) (.cons (.int 5) .nil)) (by show 2 ≤ 1000; decide)
    generalize upd G5 a6 (.tup [.str one, .int 5]) = G6 at B6
    refine ⟨_, rfl, _, rfl, _, rfl, by show 3 ≤ sizeLine; decide, fun a7 na7 => ?_⟩
    have B7 := B6.tup na7 (vs := [.str one, .str one, .str one]) (es := [.str one, .str one, .str one]) (.cons (wo _) (.cons (wo _) (.cons (wo _) .nil))) (by show 3 ≤ 1000; decide)
    generalize upd G6 a7 (.tup [.str one, .str one, .str one]) = G7 at B7
    refine ⟨_, rfl, rd, _, rfl, .inr (SqT.of (wl_some B7.2.2.1).2), fun a8 na8 => ?_⟩
    have B8 := B7.lst na8 (vs := [.str sa, .str sb]) (es := [.str sa, .str sb]) (.cons (wa _) (.cons (wb _) .nil)) (by show 2 ≤ 1000; decide)
    generalize upd G7 a8 (.lst [.str sa, .str sb]) = G8 at B8
    refine ⟨by show 9 ≤ sizeLine; decide, fun L1 nL1 => ?_⟩
    have C1 := B8.keep nL1 (vs := [.non, .int 5, .ref a2, .ref a3, .ref a4, .ref a5, .ref a6, .ref a7, .ref a8])
    generalize upd G8 L1 (.lst [.non, .int 5, .ref a2, .ref a3, .ref a4, .ref a5, .ref a6, .ref a7, .ref a8]) = K0 at C1
    -- road + (one,)
    refine ⟨_, rfl, _, rfl, _, rfl, by show 1 ≤ sizeLine; decide, fun b1 nb1 => ?_⟩
    have C1a := C1.step nb1 (o := .tup [.str one])
    have hb1 : wl [p] (upd K0 b1 (.tup [.str one])) b1 = some (.tup [.str one]) := by rw [wl_out (by simpa using C1.1.ne nb1)]; exact upd_same
    generalize upd K0 b1 (.tup [.str one]) = K1 at C1a hb1
    refine cat_any C1a.1 C1a.2.2.1 (.cons (wa _) (.cons (wb _) .nil)) hb1 (.cons (wo _) .nil) (by show 3 ≤ 1000; decide) fun K2 c1 ys1 u1 hpk1 hc1 dy1 => ?_
    have C2 := (C1a.mv u1 hpk1).put (.tup hc1 dy1 (by show 3 ≤ 1000; decide))
    -- road + (road[0],)
    refine ⟨_, rfl, _, rfl, .inr (.inl ⟨rd, _, _, .str sa, rfl, rfl, SqT.of (wl_some C2.2.2.1).2, atI_nat (j := 0) rfl, by show 1 ≤ sizeLine; decide, fun b2 nb2 => ?_⟩)⟩
    have C2a := C2.step nb2 (o := .tup [.str sa])
    have hb2 : wl [p] (upd K2 b2 (.tup [.str sa])) b2 = some (.tup [.str sa]) := by rw [wl_out (by simpa using C2.1.ne nb2)]; exact upd_same
    generalize upd K2 b2 (.tup [.str sa]) = K3 at C2a hb2
    refine cat_any C2a.1 C2a.2.2.1 (.cons (wa _) (.cons (wb _) .nil)) hb2 (.cons (wa _) .nil) (by show 3 ≤ 1000; decide) fun K4 c2 ys2 u2 hpk2 hc2 dy2 => ?_
    have C3 := (C2a.mv u2 hpk2).put (.tup hc2 dy2 (by show 3 ≤ 1000; decide))
    -- (one, other), (other, one)
    refine ⟨_, rfl, _, rfl, by show 2 ≤ sizeLine; decide, fun c3 nc3 => ?_⟩
    have C4 := C3.tup nc3 (vs := [.str one, .str other]) (es := [.str one, .str other]) (.cons (wo _) (.cons (wt _) .nil)) (by show 2 ≤ 1000; decide)
    generalize upd K4 c3 (.tup [.str one, .str other]) = K5 at C4
    refine ⟨_, rfl, _, rfl, by show 2 ≤ sizeLine; decide, fun c4 nc4 => ?_⟩
    have C5 := C4.tup nc4 (vs := [.str other, .str one]) (es := [.str other, .str one]) (.cons (wt _) (.cons (wo _) .nil)) (by show 2 ≤ 1000; decide)
    generalize upd K5 c4 (.tup [.str other, .str one]) = K6 at C5
    -- ([one], other)
    refine ⟨_, rfl, by show 1 ≤ sizeLine; decide, fun b5 nb5 => ?_⟩
    have C5a := C5.step nb5 (o := .lst [.str one])
    have db5 : DV (wl [p] (upd K6 b5 (.lst [.str one]))) (.ref b5) (.list [.str one]) := dv_madeL nb5 (by simpa using C5.1.ne nb5) (.cons (wo _) .nil) (by show 1 ≤ 1000; decide)
    generalize upd K6 b5 (.lst [.str one]) = K7 at C5a db5
    refine ⟨_, rfl, by show 2 ≤ sizeLine; decide, fun c5 nc5 => ?_⟩
    have C6 := C5a.tup nc5 (vs := [.ref b5, .str other]) (es := [.list [.str one], .str other]) (.cons db5 (.cons (wt _) .nil)) (by show 2 ≤ 1000; decide)
    generalize upd K7 c5 (.tup [.ref b5, .str other]) = K8 at C6
    -- (one, {})
    refine ⟨_, rfl, fun b6 nb6 => ?_⟩
    have C6a := C6.step nb6 (o := .dK [])
    have db6 : DV (wl [p] (upd K8 b6 (.dK []))) (.ref b6) (.dict []) := .dct (by rw [wl_out (by simpa using C6.1.ne nb6)]; exact upd_same)
    generalize upd K8 b6 (.dK []) = K9 at C6a db6
    refine ⟨by show 2 ≤ sizeLine; decide, fun c6 nc6 => ?_⟩
    have C7 := C6a.tup nc6 (vs := [.str one, .ref b6]) (es := [.str one, .dict []]) (.cons (wo _) (.cons db6 .nil)) (by show 2 ≤ 1000; decide)
    generalize upd K9 c6 (.tup [.str one, .ref b6]) = K10 at C7
    refine ⟨by show 6 ≤ sizeLine; decide, fun L2 nL2 => ?_⟩
    have C8 := C7.keep nL2 (vs := [.ref c1, .ref c2, .ref c3, .ref c4, .ref c5, .ref c6])
    generalize upd K10 L2 (.lst [.ref c1, .ref c2, .ref c3, .ref c4, .ref c5, .ref c6]) = K11 at C8
    refine ⟨L1, L2, _, _, rfl, rfl, C8.at (List.Mem.tail _ (List.Mem.head _)), C8.at (List.Mem.head _), by show 15 ≤ sizeLine; decide, fun L3 nL3 => ?_⟩
    have C9 := C8.keep nL3 (vs := [.non, .int 5, .ref a2, .ref a3, .ref a4, .ref a5, .ref a6, .ref a7, .ref a8] ++ [.ref c1, .ref c2, .ref c3, .ref c4, .ref c5, .ref c6])
    generalize upd K11 L3 (.lst ([.non, .int 5, .ref a2, .ref a3, .ref a4, .ref a5, .ref a6, .ref a7, .ref a8] ++ [.ref c1, .ref c2, .ref c3, .ref c4, .ref c5, .ref c6])) = K12 at C9
    -- the last two
    refine ⟨_, rfl, by show 2 ≤ sizeLine; decide, fun e1 ne1 => ?_⟩
    have C10 := C9.tup ne1 (vs := [.str "nohome", .str "nohome"]) (es := [.str "nohome", .str "nohome"]) (.cons (wn _) (.cons (wn _) .nil)) (by show 2 ≤ 1000; decide)
    generalize upd K12 e1 (.tup [.str "nohome", .str "nohome"]) = K13 at C10
    refine fun b7 nb7 => ?_
    have C10a := C10.step nb7 (o := .dK [])
    have db7 : DV (wl [p] (upd K13 b7 (.dK []))) (.ref b7) (.dict []) := .dct (by rw [wl_out (by simpa using C10.1.ne nb7)]; exact upd_same)
    generalize upd K13 b7 (.dK []) = K14 at C10a db7
    refine ⟨_, rfl, by show 2 ≤ sizeLine; decide, fun e2 ne2 => ?_⟩
    have C11 := C10a.tup ne2 (vs := [.ref b7, .str one]) (es := [.dict [], .str one]) (.cons db7 (.cons (wo _) .nil)) (by show 2 ≤ 1000; decide)
    generalize upd K14 e2 (.tup [.ref b7, .str one]) = K15 at C11
    refine ⟨by show 2 ≤ sizeLine; decide, fun L4 nL4 => ?_⟩
    have C12 := C11.keep nL4 (vs := [.ref e1, .ref e2])
    generalize upd K15 L4 (.lst [.ref e1, .ref e2]) = K16 at C12
    refine ⟨L3, L4, _, _, rfl, rfl, C12.at (List.Mem.tail _ (List.Mem.head _)), C12.at (List.Mem.head _), by show 17 ≤ sizeLine; decide, fun L5 nL5 => ?_⟩
    have C13 := C12.keep nL5 (vs := ([.non, .int 5, .ref a2, .ref a3, .ref a4, .ref a5, .ref a6, .ref a7, .ref a8] ++ [.ref c1, .ref c2, .ref c3, .ref c4, .ref c5, .ref c6]) ++ [.ref e1, .ref e2])
    generalize upd K16 L5 (.lst (([.non, .int 5, .ref a2, .ref a3, .ref a4, .ref a5, .ref a6, .ref a7, .ref a8] ++ [.ref c1, .ref c2, .ref c3, .ref c4, .ref c5, .ref c6]) ++ [.ref e1, .ref e2])) = K17 at C13
    refine ⟨_, rfl, p, 17, _, rfl, C13.1, by omega, by decide, by decide, fun K18 r t18 hp18 hr18 => ?_⟩
    have hL5 := drawn_keeps t18 (C12.1.ne nL5) (C13.at (List.Mem.head _))
    have S18 := C13.2.1.trans (wl_draw t18 pin)
    have D18 := C13.2.2.2.2.stay (wl_draw t18 pin)
    have D19 : DVs (wl [p] K18) (([.non, .int 5, .ref a2, .ref a3, .ref a4, .ref a5, .ref a6, .ref a7, .ref a8] ++ [.ref c1, .ref c2, .ref c3, .ref c4, .ref c5, .ref c6]) ++ [.ref e1, .ref e2]) [.none, .int 5, .tuple [.str one], .list [.str one, .str one], .tuple [.str one, .str one], .tuple [.str one, .str "nohome"], .tuple [.str one, .int 5], .tuple [.str one, .str one, .str one], .list [.str sa, .str sb], .tuple [.str sa, .str sb, .str one], .tuple [.str sa, .str sb, .str sa], .tuple [.str one, .str other], .tuple [.str other, .str one], .tuple [.list [.str one], .str other], .tuple [.str one, .dict []], .tuple [.str "nohome", .str "nohome"], .tuple [.dict [], .str one]] := D18
    have l19 := D19.length
    obtain ⟨vr, hvr⟩ : ∃ vr, (([.non, .int 5, .ref a2, .ref a3, .ref a4, .ref a5, .ref a6, .ref a7, .ref a8] ++ [.ref c1, .ref c2, .ref c3, .ref c4, .ref c5, .ref c6]) ++ [.ref e1, .ref e2] : List V)[r]? = some vr := ⟨_, List.getElem?_eq_getElem (by rw [l19]; exact hr18)⟩
    obtain ⟨d, hdr, hvd⟩ := D19.get hvr
    refine .inl ⟨L5, _, _, vr, rfl, rfl, SqL.of hL5, atI_nat hvr, ?_⟩
    refine (fun (z : OddD d ∧ txtL d) => q _ _ d S18 (hp18.mono (by omega)) hvd z.1 z.2) ?_
    have m := List.mem_of_getElem? hdr
    clear hdr hvd hvr D19 D18
    have odd : ∀ d ∈ [PyData.none, .int 5, .tuple [.str one], .list [.str one, .str one], .tuple [.str one, .str one], .tuple [.str one, .str "nohome"], .tuple [.str one, .int 5], .tuple [.str one, .str one, .str one], .list [.str sa, .str sb], .tuple [.str sa, .str sb, .str one], .tuple [.str sa, .str sb, .str sa], .tuple [.str one, .str other], .tuple [.str other, .str one], .tuple [.list [.str one], .str other], .tuple [.str one, .dict []], .tuple [.str "nohome", .str "nohome"], .tuple [.dict [], .str one]], OddD d ∧ txtL d := by
      intro d hd
      simp only [List.mem_cons, List.not_mem_nil, or_false] at hd
      rcases hd with rfl | rfl | rfl | rfl | rfl | rfl | rfl | rfl | rfl | rfl | rfl | rfl | rfl | rfl | rfl | rfl | rfl
      all_goals refine ⟨?_, by simp [txtL, txtA]⟩
      all_goals first
        | exact odd_lst
        | exact odd_tup (by simp) (by simp)
        | (intro t e; cases e)
    exact odd d m
end
end WR
namespace WR
open PySem PySem.Spec PyProof.Rows L2
/-! ## A def called at one place, told what is around it there -/
theorem fn_at {CX : CXT} {P : Program} {w : World} {K : PySem.W.Frag} {mg : Str → Option Value} {base : Heap} {k : Nat} {f : Addr} {name qual : Str} {params : Arguments} {body : List Stmt} {scope : Scope} {dV kV doc pm cdv ct oc : Value} {an od : Option Addr} {osl : Array (Option Value)} {N ps : List Str}
    (lk : List.lookup f K = some { cls := oc, dict := od, data := .func (PySem.W.fnOf name qual params body scope dV kV doc pm an cdv ct), slots := osl }) (hcd : PySem.W.codeIn K cdv qual = true) (S : FnScope N ps scope)
    {A : Around} {outer : List Env} {s : Shared} {H : Hp} {args : Args} {us : List Value} {vs : List V} {Q : VK} {E : XK} (hr : Room (k + 1) A) (e0 : Env0 P w K mg base A outer s H) (hb : BindsTo s (PySem.W.fnOf name qual params body scope dV kV doc pm an cdv ct) args (ps.zip us)) (r : Vals vs us) (hl : vs.length = ps.length)
    (hbody : Room k (A.deeper (PyProof.Rows.envOfC qual scope s.heap.objs.size f cdv)) → ∃ t, PSs (cxOf CX P w K mg base N qual scope f cdv A outer s H E) body t ∧ t { nx := fun _ H' => Q .non H', rt := Q } (L2.start N vs) H) :
    codeAny (model P w) A (.call (.ref f) args) (CR CX outer P w H s Q E) s := by
  have KX : K.In s.heap := e0.mod.kin.keeps fun b o e => (e0.bs b o e).1
  have lim : s.heap.NoLimit := e0.mod.nolimit.keeps fun b o e => (e0.bs b o e).1
  have hkind : ∀ y ∈ ps.zip us, _ := fun y hy => Or.casesOn (motive := fun _ => scope.names.lookup y.1 = some .local ∨ scope.names.lookup y.1 = some .cell ∧ ((cellsFrom (s.heap.objs.size + 1) scope.names []).lookup y.1).isSome = true) (S.par y.1 (List.of_mem_zip (show (y.1, y.2) ∈ ps.zip us from hy)).1) (fun q => .inl q) fun q => .inr ⟨q, PySem.W.cellsFrom_some scope.names (s.heap.objs.size + 1) [] (.inl q)⟩
  refine codeAny_call_function hr.depth (KX f _ lk) rfl S.co S.gen rfl (PySem.W.codeRec_of KX hcd) ?_
  refine hb (model P w) A.in1 _ _ ?_
  refine wpAny_newFunctionEnv_cells S.kind hkind fun env he s1 x => ?_
  subst he
  refine ⟨lim.keeps x.toInCall.keep, codeAny_func ?_⟩
  obtain ⟨t, ht, hq⟩ := hbody (hr.deeper _)
  have I : L2.Inv (cxOf CX P w K mg base N qual scope f cdv A outer s H E) [] (L2.start N vs) H s1 := inv_start S hr.hd e0 hl r x
  refine wpAny_mono (ht.run [] s1 (L2.start N vs) H _ I hq) (fun fl s' hs => ?_) (fun e s' hs => hs)
  cases fl with
  | next =>
    obtain ⟨σ', H', J, q⟩ := hs
    exact ⟨.non, H', J.os, J.bare, J.base, J.hok, rfl, q⟩
  | brk =>
    obtain ⟨_, _, _, q⟩ := hs
    exact q.elim
  | cont =>
    obtain ⟨_, _, _, q⟩ := hs
    exact q.elim
  | ret u =>
    obtain ⟨v, σ', H', J, rv, q⟩ := hs
    exact ⟨v, H', J.os, J.bare, J.base, J.hok, rv, q⟩
/-- the end of a law that is walked at its caller's place; c a code object with a table T -/
theorem law_callAt {P : Program} {w : World} {K : PySem.W.Frag} {mg mb : Str → Option Value} {fa a c T : Addr} {CX : CXT} {s₁ : Shared} {vs : List Value} {ns : List Int}
    (KX : K.In s₁.heap) (hns : s₁.heap.Ns mainGlobals mg) (hb : s₁.heap.Ns builtinsNs mb) (hbb : ∀ x : Str, x ≠ Str.ofString "__name__" → mb x = bootBuiltins x) (hlim : s₁.heap.NoLimit) (hg : s₁.gens = #[])
    (hT : s₁.heap.get? T = some { cls := .none, data := .fields #[] }) (nT : List.lookup T K = none) (C : PySem.W.CodeHd s₁.heap c T)
    (hbm : ∃ bm ob, mg (Str.ofString "__builtins__") = some (.ref bm) ∧ bm ≠ builtinsNs ∧ s₁.heap.get? bm = some ob ∧ ob.cls = .type "module" ∧ ob.dict = some builtinsNs ∧ ob.data = .plain)
    (ha : s₁.heap.get? a = some { cls := .type "list", data := .seq vs.toArray }) (hi : PyProof.Rows.IntsAre vs ns) (hl : ns.length ≤ sizeLine)
    (F : ∀ (base : Heap) (H : Hp), K.In base → base.Ns mainGlobals mg → LamX.TabB base mg c T → Env0 P w K mg base callerA [] s₁ H → H T = some (.tbl #[]) → SqL K H a (ns.map V.int) →
      codeAny (model P w) callerA (.call (.ref fa) { pos := [.ref a] }) (CR CX [] P w H s₁ (fun v _ => v = .bl true) fun _ _ _ => False) s₁)
    (hCX : ∀ (H : Hp) (e : Value) (s' : Shared), CX [] H s₁ (fun _ _ _ => False) e s' → False) :
    codeAny (model P w) callerA (.call (.ref fa) { pos := [.ref a] }) (fun r s' => r = .ok (.ret (.bool true)) ∧ OldK s₁.heap s'.heap ∧ s'.os = s₁.os ∧ PyProof.Rows.AllBare s'.gens) s₁ := by
  have rv := vals_ints hi
  have lenV := PyProof.Rows.IntsAre.length hi
  have aT : a ≠ T := fun z => by
    rw [z, hT] at ha
    cases ha
  have core : ∀ H : Hp, H T = some (.tbl #[]) → (∀ b, H b = none ∨ b = T ∨ ∃ o xs, H b = some (.frz o (.lst xs))) → SqL K H a (ns.map V.int) → HOk P w H s₁.heap → (∀ b, H b ≠ none → b = a ∨ b = T) → (H a ≠ none → List.lookup a K = none) → codeAny (model P w) callerA (.call (.ref fa) { pos := [.ref a] }) (fun r s' => r = .ok (.ret (.bool true)) ∧ OldK s₁.heap s'.heap ∧ s'.os = s₁.os ∧ PyProof.Rows.AllBare s'.gens) s₁ := fun H hH hO hS hok hA hK => by
    have noD : ∀ {b : Addr} {o : Obj}, s₁.heap.get? b = some o → (∀ us n, o.data ≠ .seq us n) → o.data ≠ .fields #[] → H b = none := fun {b o} e n1 n2 => by
      cases q : H b with
      | none => rfl
      | some u =>
        rcases hA b (by rw [q]; simp) with z | z
        · rw [z, ha] at e; cases e
          exact absurd rfl (n1 _ _)
        · rw [z, hT] at e; cases e
          exact absurd rfl n2
    have nsK : ∀ {b : Addr} {m : Str → Option Value}, s₁.heap.Ns b m → (hidT s₁.heap H).Ns b m := fun {b m} x => by
      obtain ⟨o, es, ep, e, d, r⟩ := x
      exact ⟨o, es, ep, hidT_get e (noD e (fun us n z => by rw [d] at z; cases z) fun z => by rw [d] at z; cases z), d, r⟩
    have hKb : K.In (hidT s₁.heap H) := fun b o e => hidT_get (KX b o e) (by
      cases q : H b with
      | none => rfl
      | some u =>
        rcases hA b (by rw [q]; simp) with z | z
        · have := hK (by rw [← z, q]; simp)
          rw [z, this] at e; cases e
        · rw [z, nT] at e; cases e)
    have hM : L2.Mod K mg (hidT s₁.heap H) := ⟨hKb, nsK hns, ⟨mb, nsK hb, hbb⟩, by
      obtain ⟨mc, h1, h2⟩ := hlim
      exact ⟨mc, nsK h1, h2⟩⟩
    have TB : LamX.TabB (hidT s₁.heap H) mg c T := by
      refine ⟨?_, ?_, fun z => ?_⟩
      · obtain ⟨o, us, file, tf, flags, tg, inF, text, tt, e1, r1, r2, r3, rest⟩ := C
        exact ⟨o, us, file, tf, flags, tg, inF, text, tt, hidT_get e1 (noD e1 (fun us n z => by rw [r2] at z; cases z) fun z => by
          rw [r2] at z; cases z
          simp at r3), r1, r2, r3, rest⟩
      · obtain ⟨bm, ob, b1, b2, b3, b4, b5, b6⟩ := hbm
        refine ⟨bm, ob, b1, b2, fun z => ?_, fun z => ?_, hidT_get b3 (noD b3 (fun us n z => by rw [b6] at z; cases z) fun z => by rw [b6] at z; cases z), b4, b5, b6⟩
        · obtain ⟨o, es, ep, e, d, r⟩ := hns
          rw [z, e] at b3; cases b3
          rw [d] at b6; cases b6
        · rw [z, hT] at b3; cases b3
          cases b6
      · obtain ⟨o, es, ep, e, d, r⟩ := hns
        rw [z, hT] at e; cases e
        cases d
    have e0 : Env0 P w K mg (hidT s₁.heap H) callerA [] s₁ H := ⟨rfl, hM, fun b o e => of_hidT e, Nat.le_of_eq (hidT_size s₁.heap H), trivial, fun b hb => absurd (show b ∈ ([] : List Addr) from hb) (by simp), hok, PyProof.Rows.AllBare.of_eq hg⟩
    refine codeAny_mono (F _ H hKb (nsK hns) TB e0 hH hS) fun r s' h => ?_
    cases r with
    | error e => exact (hCX H e s' h).elim
    | ok fl =>
      cases fl with
      | next => exact h.elim
      | brk => exact h.elim
      | cont => exact h.elim
      | ret u =>
        obtain ⟨v, H', os, bare, un, hok', r', q⟩ := h
        cases (show v = .bl true from q)
        cases (show u = Value.bool true from r')
        have key : ∀ b o, b ≠ T → s₁.heap.get? b = some o → s'.heap.get? b = some o := fun b o nb e => by
          cases q : H b with
          | none => exact un.keep b o e q (fun z => absurd (show b ∈ ([] : List Addr) from z) (by simp)) (by simp)
          | some u =>
            rcases hO b with z | z | ⟨ob, xs, z⟩
            · rw [z] at q; cases q
            · exact absurd z nb
            · have z2 := un.frzs b ob (.lst xs) z
              have e1 := (hok b (.frz ob (.lst xs)) z).1
              have e2 := (hok' b (.frz ob (.lst xs)) z2).1
              rw [e] at e1; cases e1
              exact e2
        obtain ⟨more, z⟩ := un.tbls T #[] hH
        have hm : s'.heap.get? T = some { cls := .none, data := .fields (#[] ++ more) } := hok' T _ z
        refine ⟨rfl, ⟨fun b o e => ?_, fun b o e => ?_⟩, os, bare⟩
        · by_cases hbT : b = T
          · subst hbT
            rw [hT] at e; cases e
            exact .inr (.inl ⟨Heap.TableAt.isCodeTable (PySem.W.CodeHd.tab C hT), rfl, #[], more, rfl, hm⟩)
          · exact .inl (key b o hbT e)
        · by_cases hbT : b = T
          · subst hbT; exact ⟨_, hm⟩
          · exact ⟨o, key b o hbT e⟩
  cases hk : List.lookup a K with
  | none =>
    refine core (fun b => if b = a then some (.frz { cls := .type "list", data := .seq vs.toArray } (.lst (ns.map V.int))) else if b = T then some (.tbl #[]) else none) ?_ (fun b => ?_) (.inl (.inr ⟨_, if_pos rfl⟩)) (fun b u z => ?_) (fun b z => ?_) (fun _ => hk)
    · show (if T = a then _ else if T = T then _ else _) = _
      rw [if_neg aT.symm, if_pos rfl]
    · by_cases h1 : b = a
      · exact .inr (.inr ⟨_, _, if_pos h1⟩)
      · by_cases h2 : b = T
        · exact .inr (.inl h2)
        · refine .inl ?_
          show (if b = a then _ else if b = T then _ else _) = _
          rw [if_neg h1, if_neg h2]
    · by_cases h1 : b = a
      · subst h1
        have e := (if_pos rfl).symm.trans z
        cases e
        exact ⟨ha, by rw [List.length_map]; exact hl, vs, 0, rv, ha⟩
      · by_cases h2 : b = T
        · subst h2
          have e : some (HO.tbl #[]) = some u := by
            have z1 := z
            simp only [if_neg h1] at z1
            simpa using z1
          cases e
          exact hT
        · simp only [if_neg h1, if_neg h2] at z
          cases z
    · by_cases h1 : b = a
      · exact .inl h1
      · by_cases h2 : b = T
        · exact .inr h2
        · simp [h1, h2] at z
  | some o =>
    have e := KX a o hk
    rw [ha] at e; cases e
    refine core (fun b => if b = T then some (.tbl #[]) else none) (if_pos rfl) (fun b => ?_) (.inr ⟨_, vs.toArray, 0, hk, rfl, rfl, rfl, ?_, ?_⟩) (fun b u z => ?_) (fun b z => ?_) (fun z => absurd (if_neg aT) z)
    · by_cases h2 : b = T
      · exact .inr (.inl h2)
      · exact .inl (if_neg h2)
    · rw [List.size_toArray, lenV]; exact hl
    · exact rv
    · by_cases h2 : b = T
      · subst h2
        have e := (if_pos rfl).symm.trans z
        cases e
        exact hT
      · simp only [if_neg h2] at z
        cases z
    · by_cases h2 : b = T
      · exact .inr h2
      · simp [h2] at z
end WR
namespace WR
open PySem PySem.Spec PyProof.Rows L2
/-! ## repr of a list or tuple -/
def rRepr : List V → Hp → VK → Prop := fun xs H Q => ∃ (a : Addr) (d : PyData), xs = [.ref a] ∧ DV H (.ref a) d ∧ d.hasDict = false ∧ d.showable = true ∧ d.depth ≤ 60 ∧ d.shown.length ≤ sizeLine ∧ Q (.str d.shown) H
theorem call_repr {X : Cx} (hg : X.A.guards = some []) (hu : X.A.units + 64 < cLine) : CallR X (.builtin "repr") rRepr := by
  intro pins s σ H xs us Q I r h
  obtain ⟨a, d, rfl, hd, nd, sh, dp, sz, q⟩ := h
  obtain ⟨u, rfl, rx⟩ := vals1 r
  cases (show u = Value.ref a from rx)
  obtain ⟨as, rd⟩ := Dp.reads I d _ _ (hd.dp (K := X.K) nd) (show RelV (.ref a) (.ref a) from rfl)
  exact repr_of_reads' rd sh (PyData.noDict_hsm nd) hg (by omega) (fun _ _ e => e) (fun h' t tk k => ⟨.str d.shown, H, I.kept (t' := tk) k, ⟨t, rfl⟩, q⟩) sz
end WR
namespace WR
open PySem PySem.Spec PyProof.Rows L2
theorem stay_over {H H1 H2 : Hp} {p : Addr} (s : StayT H H1) (n : H p = none) (t : StayT (wl [p] H1) (wl [p] H2)) : StayT H H2 := by
  have np : ∀ b o, H b = some o → b ∉ [p] := fun b o e z => by
    rw [List.mem_singleton.mp z, n] at e; cases e
  refine ⟨fun b o e h => ?_, fun b ps e => ?_⟩
  · have e1 := s.same b o e h
    exact (wl_some (t.same b o (by rw [wl_out (np b o e)]; exact e1) h)).2
  · obtain ⟨p1, e1, t1⟩ := s.tab b ps e
    obtain ⟨p2, e2, t2⟩ := t.tab b p1 (by rw [wl_out (np b _ e)]; exact e1)
    exact ⟨p2, (wl_some e2).2, fun z => t2 (t1 z)⟩
theorem Script.stay {K : PySem.W.Frag} {H H' : Hp} {v : V} (h : Script K H v) (s : StayT H H') : Script K H' v := by
  obtain ⟨a, ns, rfl, (h | ⟨o, h⟩) | h⟩ := h
  · exact ⟨a, ns, rfl, .inl (.inl (s.same _ _ h fun _ z => nomatch z))⟩
  · exact ⟨a, ns, rfl, .inl (.inr ⟨o, s.same _ _ h fun _ z => nomatch z⟩)⟩
  · exact ⟨a, ns, rfl, .inr h⟩
theorem Purse.stay {H H' : Hp} {p : Addr} {b : Nat} (h : Purse H p b) (s : StayT H H') : Purse H' p b := by
  obtain ⟨n, c, k, e, h1, h2⟩ := h
  exact ⟨n, c, k, s.same _ _ e (fun _ z => nomatch z), h1, h2⟩
theorem two_plain {t s : PyData} (ht : Pl 3 4000 t) (hs : Pl 3 4000 s) : (PyData.list [t, s]).hasDict = false ∧ (PyData.list [t, s]).showable = true ∧ (PyData.list [t, s]).depth ≤ 60 ∧ (PyData.list [t, s]).shown.length ≤ sizeLine := by
  refine ⟨?_, ?_, ?_, ?_⟩
  · simp only [PyData.hasDict, PyData.hasDictAll, ht.hd, hs.hd, Bool.or_self]
  · simp only [PyData.showable, PyData.showableAll, ht.sh, hs.sh, Bool.and_self]
  · have h1 := ht.dp
    have h2 := hs.dp
    simp only [PyData.depth, PyData.depthAll]; omega
  · have h1 := ht.le
    have h2 := hs.le
    simp only [PyData.shown, PyData.shownAll, listText, textFrom]
    have e1 : (Str.ofString "[").length = 1 := by decide +kernel
    have e2 : (Str.ofString (if 0 > 0 then ", " else "")).length = 0 := by decide +kernel
    have e3 : (Str.ofString (if 0 + 1 > 0 then ", " else "")).length = 2 := by decide +kernel
    have e4 : (Str.ofString "]").length = 1 := by decide +kernel
    rw [Str.length_append, Str.length_append, Str.length_append, Str.length_append, Str.length_append, e1, e2, e3, e4]
    exact Nat.le_trans (show _ ≤ 9000 by omega) (by decide)
theorem ix_roads {K : PySem.W.Frag} {G : Hp} {vt : V} {hm rs : List PyData} {Q : VK} (dt : DV G vt (.tuple [.tuple hm, .tuple rs])) (q : ∀ ab xb, G ab = some (.tup xb) → DVs G xb rs → DV G (.ref ab) (.tuple rs) → Q (.ref ab) G) : rIx K vt (.int 1) G Q := by
  obtain ⟨p, zs, rfl, hp, hzs, _⟩ := dv_tup dt
  cases hzs with
  | @cons va vs0 d0 ds0 ha t0 =>
  cases t0 with
  | @cons vb vs1 d1 ds1 hb t1 =>
  cases t1
  obtain ⟨ab, xb, rfl, hab, hxb, _⟩ := dv_tup hb
  exact .inr (.inl ⟨p, _, _, .ref ab, rfl, rfl, SqT.of hp, atI_nat (j := 1) rfl, q ab xb hab hxb hb⟩)
theorem pairs_in {G : Hp} {ms : List Addr} (hm : ∀ m ∈ ms, ∃ xs, G m = some (.lst xs)) : ∀ {xs : List V} {rs : List PyData}, DVs G xs rs → (∀ e ∈ rs, PairD e) → DVs (wl ms G) xs rs
  | _, _, .nil, _ => .nil
  | _, _, .cons h t, p => .cons (pair_wl h (p _ List.mem_cons_self) hm) (pairs_in hm t fun e he => p e (List.mem_cons_of_mem _ he))
theorem stand_in {G : Hp} {ms : List Addr} {v : V} {rs : List PyData} (hm : ∀ m ∈ ms, ∃ xs, G m = some (.lst xs)) (h : DV G v (.tuple rs)) (p : ∀ e ∈ rs, PairD e) : DV (wl ms G) v (.tuple rs) := by
  obtain ⟨a, xs, rfl, ha, hxs, hl⟩ := dv_tup h
  have na : a ∉ ms := fun z => by
    obtain ⟨zs, e2⟩ := hm a z
    rw [ha] at e2; cases e2
  refine .tup (by rw [wl_out na]; exact ha) ?_ hl
  clear ha h hl
  exact pairs_in hm hxs p
theorem wl_two {a p : Addr} (G : Hp) : wl [a] (wl [p] G) = wl [a, p] G := funext fun b => by
  by_cases h1 : b = a
  · rw [wl_in (by simp [h1]), wl_in (by simp [h1])]
  · by_cases h2 : b = p
    · rw [wl_out (by simpa using h1), wl_in (by simp [h2]), wl_in (by simp [h2])]
    · rw [wl_out (by simpa using h1), wl_out (by simpa using h2), wl_out (by simp [h1, h2])]
theorem stay_wl2 {G : Hp} {a p : Addr} : StayT (wl [a, p] G) (wl [p] G) := wl_less
/-- roads are tuples -/
theorem pairs_ref {G : Hp} : ∀ {zs : List V} {l : List PyData}, DVs G zs l → (∀ e ∈ l, PairD e) → ∀ z ∈ zs, ∃ a, z = V.ref a
  | _, _, .nil, _, z, h => by cases h
  | _, _, .cons h t, p, z, hz => by
    rcases List.mem_cons.mp hz with rfl | hz
    · obtain ⟨x, y, _, _, rfl⟩ := p _ List.mem_cons_self
      obtain ⟨a, _, e, _⟩ := dv_tup h
      exact ⟨a, e⟩
    · exact pairs_ref t (fun e he => p e (List.mem_cons_of_mem _ he)) z hz
theorem pair_rev {x y : Str} (h : PairD (.tuple [.str x, .str y])) : PairD (.tuple [.str y, .str x]) := by
  obtain ⟨a, b, ha, hb, e⟩ := h
  cases e
  exact ⟨_, _, hb, ha, rfl⟩
theorem pair_odd {e : PyData} (h : PairD e) : ∀ t, e = .tuple t → 1 ≤ t.length ∧ t.length ≤ 3 := fun t et => by
  obtain ⟨a, b, _, _, e2⟩ := h
  rw [et] at e2
  cases e2
  exact ⟨by show 1 ≤ 2; decide, by show 2 ≤ 3; decide⟩
section
variable {P : Program} {w : World} {K : PySem.W.Frag} {mg : Str → Option Value} {base : Heap} {f : Addr} {fd : FuncData} {T : Addr}
/-! ### law -/
abbrev s_law : Stmt := topS 52
abbrev N_law : List Str := ["script", "cell", "purse", "town", "standing", "stayed", "turn", "row", "k", "road", "odd"]
abbrev P_law : List Str := ["script"]
theorem sc_law : FnScope N_law P_law (defScope s_law) := ⟨rfl, rfl, rfl, by decide +kernel, rfl, by decide +kernel, by decide +kernel⟩

theorem law_runs {s : Shared} {H : Hp} {v : V} {u : Value} {args : Args} {E : XK} (F : FnP K "law" s_law f fd) (fr : Free mg) (hr0 : Room 30 callerA) (e0 : Env0 P w K mg base callerA [] s H) (hb : BindsTo s fd args (P_law.zip [u])) (ru : Vals [v] [u]) (hscr : Script K H v) (tg : TG T H)
    (c_law_purse : Cal P w K mg base "_law_purse" 2 P_law_purse (sp_law_purse K)) (c_law_town : Cal P w K mg base "_law_town" 4 P_law_town sp_law_town) (c_law_standing : Cal P w K mg base "_law_standing" 4 P_law_standing sp_law_standing) (c_law_draw : Cal P w K mg base "_law_draw" 2 P_law_draw sp_law_draw)
    (c_law_may_right : Cal P w K mg base "_law_may_right" 9 P_law_may_right (sp_law_may_right T)) (c_law_row_right : Cal P w K mg base "_law_row_right" 11 P_law_row_right (sp_law_row_right T)) (c_law_odd : Cal P w K mg base "_law_odd" 3 P_law_odd sp_law_odd) (c_law_caught : Cal P w K mg base "_law_caught" 10 P_law_caught (sp_law_caught T)) :
    codeAny (model P w) callerA (.call (.ref f) args) (CR (L2.CX P w) [] P w H s (fun v _ => v = .bl true) E) s := by
  obtain ⟨oc, od, dV, kV, doc, pm, an, cdv, ct, osl, rfl, lk, hcd, _, _⟩ := F.ex
  refine fn_at (k := 29) lk hcd sc_law hr0 e0 hb ru rfl fun hr => ⟨_, PSs.nox (pss_cons (ps_for PassesOwn.never rfl (pi_range1 rfl (fr "range" (by decide)) (pa_cons pe_int pa_nil)) (pg_name (i := 1) sc_law.nd rfl (Or.inl rfl)) (pss_cons (ps_set (i := 2) sc_law.nd rfl (Or.inl rfl) (pe_F c_law_purse (hr.mono (by omega)) (pa_cons (pv 0) (pa_cons (pv 1) pa_nil))))
    (pss_cons (ps_set (i := 3) sc_law.nd rfl (Or.inl rfl) (pe_F c_law_town (hr.mono (by omega)) (pa_cons (pv 2) (pa_cons pe_int pa_nil))))
    (pss_cons (ps_set (i := 4) sc_law.nd rfl (Or.inl rfl) (pe_F c_law_standing (hr.mono (by omega)) (pa_cons (pv 2) (pa_cons (pv 3) pa_nil))))
    (pss_cons (ps_set (i := 5) sc_law.nd rfl (Or.inl rfl) (pe_callB (call_repr rfl hr.units) (by rfl) (fr "repr" (by decide)) (by decide +kernel) (pa_cons (pe_lst (pa_cons (pv 3) (pa_cons (pv 4) pa_nil))) pa_nil)))
    (pss_cons (ps_if (pt_not (pt_val (pe_F c_law_may_right (hr.mono (by omega)) (pa_cons (pv 3) (pa_cons (pv 4) pa_nil))))) (pss_one (ps_ret pe_bl)) pss_nil)
    (pss_cons (ps_for PassesOwn.never rfl (pi_range1 rfl (fr "range" (by decide)) (pa_cons pe_int pa_nil)) (pg_name (i := 6) sc_law.nd rfl (Or.inl rfl)) (pss_cons (ps_set (i := 7) sc_law.nd rfl (Or.inl rfl) (pe_lst pa_nil))
    (pss_cons (ps_for PassesOwn.never rfl (pi_range1 rfl (fr "range" (by decide)) (pa_cons (pe_op op_mul (pe_F c_law_draw (hr.mono (by omega)) (pa_cons (pv 2) (pa_cons pe_int pa_nil))) (pe_callB (call_min2 rfl) (by rfl) (fr "min" (by decide)) (by decide +kernel) (pa_cons pe_int (pa_cons (pe_callB call_lenD' (by rfl) (fr "len" (by decide)) (by decide +kernel) (pa_cons (pe_ix ix_K (pv 3) pe_int (fun _ _ => rfl)) pa_nil)) pa_nil)))) pa_nil)) (pg_name (i := 8) sc_law.nd rfl (Or.inl rfl)) (pss_cons (ps_set (i := 9) sc_law.nd rfl (Or.inl rfl) (pe_ix ix_D (pe_ix ix_K (pv 3) pe_int (fun _ _ => rfl)) (pe_F c_law_draw (hr.mono (by omega)) (pa_cons (pv 2) (pa_cons (pe_callB call_lenD' (by rfl) (fr "len" (by decide)) (by decide +kernel) (pa_cons (pe_ix ix_K (pv 3) pe_int (fun _ _ => rfl)) pa_nil)) pa_nil))) (fun _ _ => rfl)))
    (pss_one (ps_expr (pe_bm PySem.F.plainAttrs_list PySem.F.slot_list_append PySem.F.type_list_append mt_append (pv 7) (pa_cons (pe_ix ix_D (pe_lst (pa_cons (pv 9) (pa_cons (revT_K (pv 9)) pa_nil))) (pe_F c_law_draw (hr.mono (by omega)) (pa_cons (pv 2) (pa_cons pe_int pa_nil))) (fun _ _ => rfl)) pa_nil))))))
    (pss_cons (ps_if (pt_cmpR op_eq (pe_F c_law_draw (hr.mono (by omega)) (pa_cons (pv 2) (pa_cons pe_int pa_nil))) pe_int (nomark _)) (pss_one (ps_expr (pe_bm PySem.F.plainAttrs_list PySem.F.slot_list_insert PySem.F.type_list_insert mt_insert (pv 7) (pa_cons (pe_F c_law_draw (hr.mono (by omega)) (pa_cons (pv 2) (pa_cons (pe_op op_add (pe_callB call_len_K (by rfl) (fr "len" (by decide)) (by decide +kernel) (pa_cons (pv 7) pa_nil)) pe_int) pa_nil))) (pa_cons (pe_F c_law_odd (hr.mono (by omega)) (pa_cons (pv 2) (pa_cons (pv 3) pa_nil))) pa_nil))))) pss_nil)
    (pss_one (ps_if (pt_not (pt_val (pe_F c_law_row_right (hr.mono (by omega)) (pa_cons (pv 3) (pa_cons (pv 4) (pa_cons (pv 7) pa_nil)))))) (pss_one (ps_ret pe_bl)) pss_nil))))))
    (pss_cons (ps_for PassesOwn.never rfl (pi_list (pe_lst (pa_cons pe_non (pa_cons (pe_tup pa_nil) (pa_cons pe_str (pa_cons pe_int pa_nil)))))) (pg_name (i := 10) sc_law.nd rfl (Or.inl rfl)) (pss_one (ps_if (pt_cmpR (op_neSame hr.units0) (pe_F c_law_caught (hr.mono (by omega)) (pa_cons (pv 3) (pa_cons (pv 4) (pa_cons (pv 10) (pa_cons pe_bl pa_nil))))) (pe_lst (pa_cons pe_bl (pa_cons pe_bl pa_nil))) (nomark _)) (pss_one (ps_ret pe_bl)) pss_nil)))
    (pss_one (ps_if (pt_cmpR op_ne (pe_callB (call_repr rfl hr.units) (by rfl) (fr "repr" (by decide)) (by decide +kernel) (pa_cons (pe_lst (pa_cons (pv 3) (pa_cons (pv 4) pa_nil))) pa_nil)) (pv 5) (nomark _)) (pss_one (ps_ret pe_bl)) pss_nil))))))))))
    (pss_one (ps_ret pe_bl))), ?_⟩
  refine ⟨4, rfl, by decide, by decide, ?_⟩
  refine for_it walk_range (fun i σ H1 => ∃ o1 o2 o3 o4 o5 o6 o7 o8 o9 o10 : Option V, σ = [some v, o1, o2, o3, o4, o5, o6, o7, o8, o9, o10] ∧ StayT H H1) ?h0 ?hG ?hs ?hd
  case h0 => exact ⟨none, none, none, none, none, none, none, none, none, none, rfl, StayT.refl H⟩
  case hG => intros; trivial
  case hd =>
    rintro σ H1 ⟨o1, o2, o3, o4, o5, o6, o7, o8, o9, o10, rfl, s1⟩
    rfl
  case hs =>
    rintro ci x σ _ H1 hi ⟨o1, o2, o3, o4, o5, o6, o7, o8, o9, o10, rfl, s1⟩ ⟨rfl, rfl⟩
    have hi4 : ci < 4 := hi
    refine ⟨_, rfl, _, rfl, v, ci, ?_, by omega, hscr.stay s1, fun p H2 np s2 hp => ?_⟩
    · show [v, V.int (0 + (ci : Int))] = [v, .int (ci : Nat)]
      rw [Int.zero_add]
    have np0 : H p = none := s1.none np
    have s12 := s1.trans s2
    have pm : p ∈ [p] := List.mem_singleton.mpr rfl
    refine ⟨_, rfl, p, 6, 3000, rfl, by decide, by decide, hp, by decide, fun H3 vt t t3 hp3 dt tt tv => ?_⟩
    have s3 := stay_over s12 np0 t3
    refine ⟨_, rfl, _, rfl, p, 3100, vt, t, rfl, hp3, by decide, dt, tt, fun H4 vs d t4 hp4 ds ss sv => ?_⟩
    have s4 := stay_over s3 np0 t4
    replace dt := dt.stay t4
    obtain ⟨z1, z2, z3, z4⟩ := two_plain (pl_town tt) (pl_stand ss)
    have s64 : ∀ l, d = .tuple l → l.length < 64 := fun l e => by
      obtain ⟨l', e', h8, _⟩ := ss
      rw [e] at e'
      cases e'
      omega
    obtain ⟨hm, rs, st, rfl, rfl, len, he, hs, nd⟩ := standing_shape tv sv
    obtain ⟨d0, l0, rs0, e0, bh, br⟩ := town_shape tv
    cases e0
    obtain ⟨ps, rfl, hps⟩ := badRoad_is _ _ _ _ br
    have hne : d0 :: l0 ≠ [] := fun z => by cases z
    generalize d0 :: l0 = hm at *
    have tf : hm.length ≤ 8 ∧ ps.length ≤ 20 ∧ ∀ e ∈ ps.map pairOf, PairD e := by
      obtain ⟨hs', rs', e, h8, h20, _, hp⟩ := tt
      cases e
      rw [List.length_map] at h20
      exact ⟨h8, h20, hp⟩
    obtain ⟨h8, h20, hpd⟩ := tf
    have st64 := s64 st rfl
    clear s64 bh br hps tt ss
    have mk : ∀ {G : Hp} {l : Addr}, G l = none → DV (wl [p] G) vt (.tuple [.tuple hm, .tuple (ps.map pairOf)]) → DV (wl [p] G) vs (.tuple st) → DV (upd G l (.lst [vt, vs])) (.ref l) (.list [.tuple [.tuple hm, .tuple (ps.map pairOf)], .tuple st]) := fun n a b => .lst upd_same (.two (a.out.stay ((StayT.refl _).new n)) (b.out.stay ((StayT.refl _).new n))) (by show 2 ≤ 1000; decide)
    refine ⟨_, rfl, _, rfl, by show 2 ≤ sizeLine; decide, fun l nl => ?_⟩
    refine ⟨l, _, rfl, mk nl dt ds, z1, z2, z3, z4, ?_⟩
    have t5 := wl_alloc (ms := [p]) (o := .lst [vt, vs]) nl
    have s5 := s4.new (o := .lst [vt, vs]) nl
    replace hp4 := hp4.upd (o := .lst [vt, vs]) (hp4.ne nl)
    replace dt := dt.stay t5
    replace ds := ds.stay t5
    generalize upd H4 l (.lst [vt, vs]) = H5 at s5 hp4 dt ds
    clear t5 nl s4 t4 s3 t3 hp3 hp s12 s2 np s1
    refine ⟨_, rfl, _, rfl, vt, vs, hm, ps, st, rfl, dt.out, ds.out, s5.tabG tg, st64, tv, sv, fun H6 s6 => ⟨_, rfl, iteF ?_⟩⟩
    have s06 := s5.trans s6
    replace hp4 := hp4.stay s6
    replace dt := dt.stay (wl_stay s6)
    replace ds := ds.stay (wl_stay s6)
    clear s6 s5
    generalize hsh : (PyData.list [PyData.tuple [PyData.tuple hm, PyData.tuple (ps.map pairOf)], PyData.tuple st]).shown = sh
    refine ⟨4, rfl, by decide, by decide, ?_⟩
    refine for_it walk_range (fun ti σ G => ∃ o6 o7 o8 o9 o10 : Option V, σ = [some v, some (.int (0 + (ci : Int))), some (.ref p), some vt, some vs, some (.str sh), o6, o7, o8, o9, o10] ∧ StayT H G ∧ Purse G p (3300 + 50 * ti) ∧ DV (wl [p] G) vt (.tuple [.tuple hm, .tuple (ps.map pairOf)]) ∧ DV (wl [p] G) vs (.tuple st)) ?g0 ?gG ?gs ?gd
    case g0 => exact ⟨o6, o7, o8, o9, o10, rfl, s06, hp4.mono (by omega), dt, ds⟩
    case gG => intros; trivial
    case gs =>
      clear dt ds hp4 s06
      rintro ti x σ _ G ht ⟨o6, o7, o8, o9, o10, rfl, sG, hpG, dt, ds⟩ ⟨rfl, rfl⟩
      have ht4 : ti < 4 := ht
      refine ⟨by show 0 ≤ sizeLine; decide, fun rw nrw => ?_⟩
      have rw_p : rw ≠ p := hpG.ne nrw
      have rw0 : H rw = none := sG.none nrw
      have prw : p ∈ [rw, p] := by simp
      have rrw : rw ∈ [rw, p] := by simp
      have sG1 := sG.new (o := .lst []) nrw
      have hp1 := hpG.upd (o := .lst []) rw_p
      have more : ∀ {u : V} {e : PyData}, DV (wl [p] G) u e → DV (wl [rw, p] (upd G rw (.lst []))) u e := fun h => by
        rw [wl_upd_in rrw]
        exact h.stay (wl_more nrw)
      have dt1 := more dt
      have ds1 := more ds
      have hrw : upd G rw (.lst []) rw = some (.lst []) := upd_same
      generalize upd G rw (.lst []) = G1 at sG1 hp1 dt1 ds1 hrw
      clear more nrw dt ds hpG sG
      refine ⟨_, rfl, p, 13, _, rfl, hp1, by omega, by decide, by decide, fun G2 r t2 hp2 hr2 => ?_⟩
      have T2 := wl_draw t2 prw
      have dt2 := dt1.stay T2
      have ds2 := ds1.stay T2
      have sG2 := stay_over sG1 np0 (wl_draw t2 pm)
      have hrw2 := drawn_keeps t2 rw_p hrw
      clear T2 t2 dt1 ds1 sG1 hp1 hrw
      refine ⟨_, rfl, ix_roads dt2.out fun ab xb hab hxb dab => ⟨_, _, ps.length, rfl, dab, by simp [lenD], _, _, rfl, ?_⟩⟩
      obtain ⟨m, em, hm12⟩ : ∃ m : Nat, (r : Int) * (if (ps.length : Int) < 1 then (ps.length : Int) else 1) = (m : Int) ∧ m ≤ 12 ∧ (m ≠ 0 → 1 ≤ ps.length) := by
        by_cases c : (ps.length : Int) < 1
        · rw [if_pos c]
          have : ps.length = 0 := by omega
          exact ⟨0, by rw [this]; simp, by omega, fun z => absurd rfl z⟩
        · rw [if_neg c]
          exact ⟨r, by simp, by omega, fun _ => by omega⟩
      refine ⟨_, _, rfl, rfl, .inl ⟨by omega, by omega⟩, ?_⟩
      refine ⟨(m : Int), congrArg (fun z => [V.int z]) em, by omega, by omega, ?_⟩
      clear em hr2 hab hxb dab
      refine for_it walk_range (fun j σ G3 => ∃ (zs : List V) (l : List PyData) (o8 o9 : Option V), σ = [some v, some (.int (0 + (ci : Int))), some (.ref p), some vt, some vs, some (.str sh), some (.int (0 + (ti : Int))), some (.ref rw), o8, o9, o10] ∧ StayT H G3 ∧ Purse G3 p (3300 + 50 * ti + 1 + 2 * j) ∧ DV (wl [rw, p] G3) vt (.tuple [.tuple hm, .tuple (ps.map pairOf)]) ∧ DV (wl [rw, p] G3) vs (.tuple st) ∧ G3 rw = some (.lst zs) ∧ DVs (wl [rw, p] G3) zs l ∧ l.length = j ∧ ∀ e ∈ l, PairD e) ?r0 ?rG ?rs ?rd
      case r0 => exact ⟨[], [], o8, o9, rfl, sG2, hp2.mono (by omega), dt2, ds2, hrw2, .nil, rfl, fun _ z => by cases z⟩
      case rG => intros; trivial
      case rs =>
        clear dt2 ds2 hrw2 sG2 hp2
        rintro j x σ _ G3 hj ⟨zs, l, o8, o9, rfl, sG, hpG, dt, ds, hrw, dzs, ll, lp⟩ ⟨rfl, rfl⟩
        have hjm : j < m := by simpa using hj
        have hps1 : 1 ≤ ps.length := hm12.2 (by omega)
        refine ⟨_, rfl, ix_roads dt.out fun ab xb hab hxb dab => ?_⟩
        refine ⟨_, rfl, _, rfl, ix_roads dt.out fun ab2 xb2 hab2 hxb2 dab2 => ⟨_, _, ps.length, rfl, dab2, by simp [lenD], p, ps.length, _, rfl, hpG, by omega, hps1, by omega, fun G4 r4 t4 hp4 hr4 => ?_⟩⟩
        have T4 := wl_draw t4 prw
        have sG4 := stay_over sG np0 (wl_draw t4 pm)
        have dt4 := dt.stay T4
        have dzs4 := dzs.stay T4
        have ds4 := ds.stay T4
        have hrw4 := drawn_keeps t4 rw_p hrw
        obtain ⟨pt, zz, ep, hpt, hzz, _⟩ := dv_tup dt
        have one : ∀ q' ∈ [rw, p], ∃ xs, G4 q' = some (.lst xs) := fun q' hq' => by
          rcases List.mem_cons.mp hq' with rfl | hq'
          · exact ⟨_, hrw4⟩
          · rw [List.mem_singleton.mp hq']
            obtain ⟨n, c, k, e, _, _⟩ := hp4
            exact ⟨_, e⟩
        -- the road
        have dab4 : DV G4 (.ref ab) (.tuple (ps.map pairOf)) := by
          have h0 : DV (wl [rw, p] G3) (.ref ab) (.tuple (ps.map pairOf)) := by
            refine stand_in ?_ dab hpd
            intro q' hq'
            rcases List.mem_cons.mp hq' with rfl | hq'
            · exact ⟨_, hrw⟩
            · rw [List.mem_singleton.mp hq']
              obtain ⟨n, c, k, e, _, _⟩ := hpG
              exact ⟨_, e⟩
          exact (h0.stay T4).out
        obtain ⟨a4, b4, epr, hpr⟩ : ∃ a4 b4, ps[r4]? = some (a4, b4) ∧ PairD (pairOf (a4, b4)) := by
          have hr4' : r4 < ps.length := hr4
          exact ⟨ps[r4].1, ps[r4].2, by rw [List.getElem?_eq_getElem hr4'], hpd _ (List.mem_map_of_mem (List.getElem_mem hr4'))⟩
        refine ⟨_, pairOf (a4, b4), r4, dab4, rfl, by simp [itemD, epr], fun vr hvr => ?_⟩
        have hvrw := pair_wl hvr hpr one
        obtain ⟨ra, us, rfl, hra, hus, _⟩ := dv_tup hvr
        cases hus with
        | @cons va1 vs1 d1 ds1 hva t1 =>
        cases t1 with
        | @cons vb vs2 d2 ds2 hvb t2 =>
        cases t2
        cases dv_str hva
        cases dv_str hvb
        refine ⟨_, rfl, .inl ⟨rfl, _, SqL.of hrw4⟩, _, rfl, _, rfl, ra, _, _, rfl, SqT.of hra, fun u nu => ⟨by show 2 ≤ sizeLine; decide, fun q5 nq5 => ?_⟩⟩
        have u_p := hp4.ne nu
        have u_rw : u ≠ rw := fun z => by rw [z, hrw4] at nu; cases nu
        have T5 := wl_alloc (ms := [rw, p]) (o := .tup [.str b4, .str a4]) nu
        have T5p := wl_alloc (ms := [p]) (o := .tup [.str b4, .str a4]) nu
        have du : DV (wl [rw, p] (upd G4 u (.tup [.str b4, .str a4]))) (.ref u) (pairOf (b4, a4)) := .tup (by rw [wl_out (by simp [u_p, u_rw])]; exact upd_same) (.two (by cases hvb with | str a b => exact .str a b) (by cases hva with | str a b => exact .str a b)) (by show 2 ≤ 1000; decide)
        have dr5 := hvrw.stay T5
        replace dt4 := dt4.stay T5
        replace ds4 := ds4.stay T5
        replace dzs4 := dzs4.stay T5
        replace sG4 := sG4.new (o := .tup [.str b4, .str a4]) nu
        replace hp4 := hp4.upd (o := .tup [.str b4, .str a4]) u_p
        replace hrw4 : upd G4 u (.tup [.str b4, .str a4]) rw = some (.lst zs) := by rw [upd_ne (Ne.symm u_rw)]; exact hrw4
        generalize upd G4 u (.tup [.str b4, .str a4]) = G5 at *
        have q5_p := hp4.ne nq5
        have q5_rw : q5 ≠ rw := fun z => by rw [z, hrw4] at nq5; cases nq5
        have T6 := wl_alloc (ms := [rw, p]) (o := .lst [.ref ra, .ref u]) nq5
        replace du := du.stay T6
        replace dr5 := dr5.stay T6
        replace dt4 := dt4.stay T6
        replace ds4 := ds4.stay T6
        replace dzs4 := dzs4.stay T6
        replace sG4 := sG4.new (o := .lst [.ref ra, .ref u]) nq5
        replace hp4 := hp4.upd (o := .lst [.ref ra, .ref u]) q5_p
        replace hrw4 : upd G5 q5 (.lst [.ref ra, .ref u]) rw = some (.lst zs) := by rw [upd_ne (Ne.symm q5_rw)]; exact hrw4
        have dq5 : DV (wl [rw, p] (upd G5 q5 (.lst [.ref ra, .ref u]))) (.ref q5) (.list [pairOf (a4, b4), pairOf (b4, a4)]) := .lst (by rw [wl_out (by simp [q5_p, q5_rw])]; exact upd_same) (.two dr5 du) (by show 2 ≤ 1000; decide)
        generalize upd G5 q5 (.lst [.ref ra, .ref u]) = G6 at *
        refine ⟨_, rfl, p, 2, _, rfl, hp4, by omega, by decide, by decide, fun G7 r7 t7 hp7 hr7 => ?_⟩
        have T7 := wl_draw t7 prw
        have sG7 := stay_over sG4 np0 (wl_draw t7 pm)
        have dq7 := dq5.stay T7
        have hrw7 := drawn_keeps t7 rw_p hrw4
        have fin : ∀ (w7 : V) (e7 : PyData), PairD e7 → DV G7 w7 e7 → ∃ zs' l' o8' o9', [some v, some (V.int (0 + (ci : Int))), some (V.ref p), some vt, some vs, some (V.str sh), some (V.int (0 + (ti : Int))), some (V.ref rw), some (V.int (0 + (j : Int))), some (V.ref ra), o10] = [some v, some (V.int (0 + (ci : Int))), some (V.ref p), some vt, some vs, some (V.str sh), some (V.int (0 + (ti : Int))), some (V.ref rw), o8', o9', o10] ∧ StayT H (upd G7 rw (.lst (zs ++ [w7]))) ∧ Purse (upd G7 rw (.lst (zs ++ [w7]))) p (3300 + 50 * ti + 1 + 2 * (j + 1)) ∧ DV (wl [rw, p] (upd G7 rw (.lst (zs ++ [w7])))) vt (.tuple [.tuple hm, .tuple (ps.map pairOf)]) ∧ DV (wl [rw, p] (upd G7 rw (.lst (zs ++ [w7])))) vs (.tuple st) ∧ upd G7 rw (.lst (zs ++ [w7])) rw = some (.lst zs') ∧ DVs (wl [rw, p] (upd G7 rw (.lst (zs ++ [w7])))) zs' l' ∧ l'.length = j + 1 ∧ ∀ e ∈ l', PairD e := fun w7 e7 hp7' hw7 => by
          have hw := pair_wl (ms := [rw, p]) hw7 hp7' fun q' hq' => by
            rcases List.mem_cons.mp hq' with rfl | hq'
            · exact ⟨_, hrw7⟩
            · rw [List.mem_singleton.mp hq']
              obtain ⟨n, c, k, e, _, _⟩ := hp7
              exact ⟨_, e⟩
          refine ⟨zs ++ [w7], l ++ [e7], _, _, rfl, sG7.upd rw0, (hp7.upd rw_p).mono (by omega), ?_, ?_, upd_same, ?_, by simp [ll], all_snoc lp hp7'⟩
          · rw [wl_upd_in rrw]; exact dt4.stay T7
          · rw [wl_upd_in rrw]; exact ds4.stay T7
          · rw [wl_upd_in rrw]; exact (dzs4.stay T7).snoc hw
        have lz : zs.length ≤ 1000 := by
          have := dzs4.length
          omega
        rcases Nat.lt_or_ge r7 1 with h7 | h7
        · have r70 : r7 = 0 := by omega
          subst r70
          refine ⟨_, pairOf (a4, b4), 0, dq7.out, rfl, rfl, fun w7 hw7 => ⟨rw, zs, w7, rfl, rfl, hrw7, Nat.lt_of_le_of_lt lz (by decide), ?_⟩⟩
          exact fin w7 _ hpr hw7
        · have r71 : r7 = 1 := by omega
          subst r71
          refine ⟨_, pairOf (b4, a4), 1, dq7.out, rfl, rfl, fun w7 hw7 => ⟨rw, zs, w7, rfl, rfl, hrw7, Nat.lt_of_le_of_lt lz (by decide), ?_⟩⟩
          exact fin w7 _ (pair_rev hpr) hw7
      case rd =>
        clear dt2 ds2 hrw2 sG2 hp2
        rintro σ G3 ⟨zs, l, o8, o9, rfl, sG, hpG, dt, ds, hrw, dzs, ll, lp⟩
        have ll12 : l.length ≤ 12 := by
          have : l.length = m := by simpa using ll
          omega
        have lzs : zs.length = l.length := dzs.length
        refine ⟨_, rfl, p, 2, _, rfl, hpG, by omega, by decide, by decide, fun G4 r4 t4 hp4 hr4 => ⟨rfl, _, rfl, ?_⟩⟩
        have T4 := wl_draw t4 prw
        have sG4 := stay_over sG np0 (wl_draw t4 pm)
        have dt4 := dt.stay T4
        have ds4 := ds.stay T4
        have dzs4 := dzs.stay T4
        have hrw4 := drawn_keeps t4 rw_p hrw
        clear t4 T4 dt ds dzs hrw sG hpG
        by_cases c0 : V.int (r4 : Nat) = V.int 0
        case neg =>
          rw [decide_eq_false c0]
          refine iteF ?_
          refine ⟨_, rfl, _, rfl, _, rfl, vt, vs, rw, hm, ps, st, zs, l, rfl, dt4.out, ds4.out, hrw4, dzs4.out, by omega, (fun e he' t et => pair_odd (lp e he') t et), sG4.tabG tg, st64, tv, sv, fun G5 s5 => ⟨_, rfl, iteF ?_⟩⟩
          exact ⟨_, _, _, _, _, rfl, sG4.trans s5, (hp4.stay s5).mono (by omega), (dt4.stay stay_wl2).stay (wl_stay s5), (ds4.stay stay_wl2).stay (wl_stay s5)⟩
        rw [decide_eq_true c0]
        refine iteT ?_
        refine ⟨_, rfl, .inl ⟨rfl, _, SqL.of hrw4⟩, _, rfl, _, rfl, rw, zs, rfl, .inl (SqL.of hrw4), _, _, rfl, rfl, p, zs.length + 1, _, by push_cast; rfl, hp4, by omega, by omega, by omega, fun G5 r5 t5 hp5 hr5 => ?_⟩
        have T5 := wl_draw t5 prw
        have sG5 := stay_over sG4 np0 (wl_draw t5 pm)
        have dt5 := dt4.stay T5
        have ds5 := ds4.stay T5
        have dzs5 := dzs4.stay T5
        have hrw5 := drawn_keeps t5 rw_p hrw4
        refine ⟨_, rfl, _, rfl, p, _, vt, hm, ps, rfl, hp5, by omega, dt5.stay stay_wl2, h8, hne, h20, he, fun G6 ro dr S6 hp6 dro od tx => ?_⟩
        have sG6 := stay_over sG5 np0 S6
        have W6 : StayT (wl [rw, p] G5) (wl [rw, p] G6) := by
          have := wl_stay (ms := [rw]) S6
          rwa [wl_two, wl_two] at this
        have hrw6 : wl [p] G6 rw = some (.lst zs) := S6.same _ _ (by rw [wl_out (by simpa using rw_p)]; exact hrw5) fun _ z => nomatch z
        have dzs6 := dzs5.stay W6
        have dro6 : DV (wl [rw, p] G6) ro dr := by
          have := odd_wl (G := wl [p] G6) (ms := [rw]) (fun q' hq' => by
            rw [List.mem_singleton.mp hq']
            exact ⟨zs, hrw6, pairs_ref dzs6 lp⟩) dro tx
          rwa [wl_two] at this
        refine ⟨rw, zs, (r5 : Int), ro, rfl, rfl, (wl_some hrw6).2, Nat.lt_of_le_of_lt (show zs.length ≤ 12 by omega) (by decide), by omega, by omega, ?_⟩
        rw [Int.toNat_natCast]
        have dzs7 : DVs (wl [rw, p] (upd G6 rw (.lst (zs.take r5 ++ [ro] ++ zs.drop r5)))) (zs.take r5 ++ [ro] ++ zs.drop r5) (l.take r5 ++ [dr] ++ l.drop r5) := by
          rw [wl_upd_in rrw]
          exact ((dzs6.take r5).append (.one dro6)).append (dzs6.drop r5)
        have dt7 : DV (wl [rw, p] (upd G6 rw (.lst (zs.take r5 ++ [ro] ++ zs.drop r5)))) vt (.tuple [.tuple hm, .tuple (ps.map pairOf)]) := by rw [wl_upd_in rrw]; exact dt5.stay W6
        have ds7 : DV (wl [rw, p] (upd G6 rw (.lst (zs.take r5 ++ [ro] ++ zs.drop r5)))) vs (.tuple st) := by rw [wl_upd_in rrw]; exact ds5.stay W6
        have sG7 := sG6.upd (o := .lst (zs.take r5 ++ [ro] ++ zs.drop r5)) rw0
        have hp7 := hp6.upd (o := .lst (zs.take r5 ++ [ro] ++ zs.drop r5)) rw_p
        have hrw7 : upd G6 rw (.lst (zs.take r5 ++ [ro] ++ zs.drop r5)) rw = some (.lst (zs.take r5 ++ [ro] ++ zs.drop r5)) := upd_same
        generalize upd G6 rw (.lst (zs.take r5 ++ [ro] ++ zs.drop r5)) = G7 at dzs7 dt7 ds7 sG7 hp7 hrw7
        refine ⟨_, rfl, _, rfl, _, rfl, vt, vs, rw, hm, ps, st, _, l.take r5 ++ [dr] ++ l.drop r5, rfl, dt7.out, ds7.out, hrw7, dzs7.out, (by simp only [List.length_append, List.length_take, List.length_drop, List.length_cons, List.length_nil]; omega), (fun e he' t et => ?_), sG7.tabG tg, st64, tv, sv, fun G8 s8 => ⟨_, rfl, iteF ?_⟩⟩
        · rcases List.mem_append.mp he' with h | h
          · rcases List.mem_append.mp h with h | h
            · exact pair_odd (lp e (List.mem_of_mem_take h)) t et
            · rw [List.mem_singleton.mp h] at et
              exact od t et
          · exact pair_odd (lp e (List.mem_of_mem_drop h)) t et
        · exact ⟨_, _, _, _, _, rfl, sG7.trans s8, (hp7.stay s8).mono (by omega), (dt7.stay stay_wl2).stay (wl_stay s8), (ds7.stay stay_wl2).stay (wl_stay s8)⟩
    case gd =>
      rintro σ G ⟨o6, o7, o8, o9, o10, rfl, sG, hpG, dt, ds⟩
      refine ⟨by show 0 ≤ sizeLine; decide, fun u nu => ⟨by show 4 ≤ sizeLine; decide, fun q nq => ?_⟩⟩
      have u_p := hpG.ne nu
      have t1 := wl_alloc (ms := [p]) (o := .tup []) nu
      have sG1 := sG.new (o := .tup []) nu
      have hp1 := hpG.upd (o := .tup []) u_p
      have dt1 := dt.stay t1
      have ds1 := ds.stay t1
      have hu : upd G u (.tup []) u = some (.tup []) := upd_same
      generalize upd G u (.tup []) = G1 at *
      have t2 := wl_alloc (ms := [p]) (o := .lst [.non, .ref u, .str "row", .int 5]) nq
      have sG2 := sG1.new (o := .lst [.non, .ref u, .str "row", .int 5]) nq
      have hp2 := hp1.upd (o := .lst [.non, .ref u, .str "row", .int 5]) (hp1.ne nq)
      have dt2 := dt1.stay t2
      have ds2 := ds1.stay t2
      have hu2 : upd G1 q (.lst [.non, .ref u, .str "row", .int 5]) u = some (.tup []) := by rw [upd_ne (ne_of_none hu nq)]; exact hu
      have hq2 : upd G1 q (.lst [.non, .ref u, .str "row", .int 5]) q = some (.lst [.non, .ref u, .str "row", .int 5]) := upd_same
      refine ⟨q, rfl, ⟨_, SqL.of hq2⟩, ?_⟩
      generalize upd G1 q (.lst [.non, .ref u, .str "row", .int 5]) = G2 at *
      clear t1 t2 dt1 ds1 hp1 sG1 hu dt ds hpG sG nu nq u_p
      refine for_it (walk_list (xs := [V.non, .ref u, .str "row", .int 5])) (fun j σ G3 => ∃ o10 : Option V, σ = [some v, some (.int (0 + (ci : Int))), some (.ref p), some vt, some vs, some (.str sh), o6, o7, o8, o9, o10] ∧ StayT G2 G3) ?q0 ?qG ?qs ?qd
      case q0 => exact ⟨o10, rfl, StayT.refl G2⟩
      case qG =>
        rintro j σ G3 hj ⟨o10, rfl, s3⟩
        exact SqL.of (s3.same _ _ hq2 fun _ z => nomatch z)
      case qs =>
        rintro j x σ _ G3 hj ⟨o10, rfl, s3⟩ ⟨rfl, hx⟩
        have dx : ∃ dx, DV G3 x dx ∧ ∀ l, dx ≠ .list l := by
          have hu3 := s3.same _ _ hu2 fun _ z => nomatch z
          match j, hx with
          | 0, hx => cases hx; exact ⟨_, .non, fun l z => by cases z⟩
          | 1, hx => cases hx; exact ⟨_, .tup hu3 .nil (by show 0 ≤ 1000; decide), fun l z => by cases z⟩
          | 2, hx => cases hx; exact ⟨.str "row", .str (by decide +kernel) (by decide +kernel), fun l z => by cases z⟩
          | 3, hx => cases hx; exact ⟨_, .int 5, fun l z => by cases z⟩
          | j + 4, hx => cases hx
        obtain ⟨dx, hdx, nlx⟩ := dx
        have s03 := sG2.trans s3
        refine ⟨_, rfl, _, rfl, _, rfl, vt, vs, x, false, hm, ps, st, dx, [.bl true, .bl false], rfl, dt2.out.stay s3, ds2.out.stay s3, hdx, s03.tabG tg, tv, sv, .inr (.inl ⟨rfl, nlx, rfl⟩), fun G4 r s4 nr hr => ⟨by show 2 ≤ sizeLine; decide, fun b nb => ?_⟩⟩
        refine ⟨r, b, _, rfl, rfl, (by rw [upd_ne (ne_of_none hr nb)]; exact hr), upd_same, (by intro w hw; simp at hw; rcases hw with rfl | rfl <;> rfl), _, rfl, iteF ?_⟩
        exact ⟨_, rfl, (s3.trans s4).new nb⟩
      case qd =>
        rintro σ G3 ⟨o10, rfl, s3⟩
        have dt3 := dt2.stay (wl_stay (ms := [p]) s3)
        have ds3 := ds2.stay (wl_stay (ms := [p]) s3)
        refine ⟨_, rfl, _, rfl, by show 2 ≤ sizeLine; decide, fun m nm => ⟨m, _, rfl, mk nm dt3 ds3, z1, z2, z3, z4, _, rfl, rfl, _, rfl, ?_⟩⟩
        rw [hsh, decide_eq_true rfl]
        exact iteF ⟨_, _, _, _, _, _, _, _, _, _, rfl, (sG2.trans s3).new nm⟩
end
end WR
namespace WR
open PySem PySem.Spec PyProof.Rows L2
abbrev i_NoTown : Stmt := inClass (topS 3) 0
theorem sc_NoTown : FnScope ["self", "wrong"] ["self", "wrong"] (defScope i_NoTown) := ⟨rfl, rfl, rfl, by decide +kernel, rfl, by decide +kernel, by decide +kernel⟩
abbrev i_NoStanding : Stmt := inClass (topS 4) 0
theorem sc_NoStanding : FnScope ["self", "wrong"] ["self", "wrong"] (defScope i_NoStanding) := ⟨rfl, rfl, rfl, by decide +kernel, rfl, by decide +kernel, by decide +kernel⟩
abbrev i_Short : Stmt := inClass (topS 5) 0
theorem sc_Short : FnScope ["self", "hand", "lacks", "at"] ["self", "hand", "lacks", "at"] (defScope i_Short) := ⟨rfl, rfl, rfl, by decide +kernel, rfl, by decide +kernel, by decide +kernel⟩
abbrev i_NoRoad : Stmt := inClass (topS 6) 0
theorem sc_NoRoad : FnScope ["self", "pair", "at"] ["self", "pair", "at"] (defScope i_NoRoad) := ⟨rfl, rfl, rfl, by decide +kernel, rfl, by decide +kernel, by decide +kernel⟩
/-! ### what the head is asked -/
def hfa : List He.Fa := [.glo "is_whole", .glo "is_name", .glo "is_pair", .glo "is_text_pair", .glo "is_entry", .glo "bad_home", .glo "bad_road", .glo "town_wrong", .glo "check_town", .glo "standing_wrong", .glo "check_standing", .glo "wealth_by_hand", .glo "hands_at", .glo "wealths", .glo "stands_of", .glo "road_ends", .glo "shortage", .glo "moved", .glo "exchange", .glo "stuck", .glo "exchanged", .glo "gone", .glo "may", .glo "_law_at", .glo "_law_mixed", .glo "_law_purse", .glo "_law_draw", .glo "_law_words", .glo "_law_town", .glo "_law_standing", .glo "_law_wealths", .glo "_law_stands", .glo "_law_placed", .glo "_law_short", .glo "_law_is_road", .glo "_law_caught", .glo "_law_swapped", .glo "_law_row_right", .glo "_law_may_right", .glo "_law_odd", .glo "law", .glo "NoTown", .glo "NoStanding", .glo "NoRow", .glo "Short", .glo "NoRoad", .glo "TownError", .str "LETTERS" letters, .str "SIGNS" signs, .free "isinstance", .free "int", .free "bool", .free "str", .free "tuple", .free "list", .free "dict", .free "len", .free "range", .free "enumerate", .free "zip", .free "max", .free "min", .free "sorted", .free "all", .free "any", .free "abs", .free "repr", .free "sum", .free "set"]
def hfn : List He.DefD := [⟨("is_whole", none), "is_whole", "is_whole", defArgs s_is_whole, defBody s_is_whole, defScope s_is_whole, [], []⟩, ⟨("is_name", none), "is_name", "is_name", defArgs s_is_name, defBody s_is_name, defScope s_is_name, [], []⟩, ⟨("is_pair", none), "is_pair", "is_pair", defArgs s_is_pair, defBody s_is_pair, defScope s_is_pair, [], []⟩, ⟨("is_text_pair", none), "is_text_pair", "is_text_pair", defArgs s_is_text_pair, defBody s_is_text_pair, defScope s_is_text_pair, [], []⟩, ⟨("is_entry", none), "is_entry", "is_entry", defArgs s_is_entry, defBody s_is_entry, defScope s_is_entry, [], []⟩, ⟨("bad_home", none), "bad_home", "bad_home", defArgs s_bad_home, defBody s_bad_home, defScope s_bad_home, [], []⟩, ⟨("bad_road", none), "bad_road", "bad_road", defArgs s_bad_road, defBody s_bad_road, defScope s_bad_road, [], []⟩, ⟨("town_wrong", none), "town_wrong", "town_wrong", defArgs s_town_wrong, defBody s_town_wrong, defScope s_town_wrong, [], []⟩, ⟨("check_town", none), "check_town", "check_town", defArgs s_check_town, defBody s_check_town, defScope s_check_town, [], []⟩, ⟨("standing_wrong", none), "standing_wrong", "standing_wrong", defArgs s_standing_wrong, defBody s_standing_wrong, defScope s_standing_wrong, [], []⟩, ⟨("check_standing", none), "check_standing", "check_standing", defArgs s_check_standing, defBody s_check_standing, defScope s_check_standing, [], []⟩, ⟨("wealth_by_hand", none), "wealth_by_hand", "wealth_by_hand", defArgs s_wealth_by_hand, defBody s_wealth_by_hand, defScope s_wealth_by_hand, [], []⟩, ⟨("hands_at", none), "hands_at", "hands_at", defArgs s_hands_at, defBody s_hands_at, defScope s_hands_at, [], []⟩, ⟨("wealths", none), "wealths", "wealths", defArgs s_wealths, defBody s_wealths, defScope s_wealths, [], []⟩, ⟨("stands_of", none), "stands_of", "stands_of", defArgs s_stands_of, defBody s_stands_of, defScope s_stands_of, [], []⟩, ⟨("road_ends", none), "road_ends", "road_ends", defArgs s_road_ends, defBody s_road_ends, defScope s_road_ends, [], []⟩, ⟨("shortage", none), "shortage", "shortage", defArgs s_shortage, defBody s_shortage, defScope s_shortage, [], []⟩, ⟨("moved", none), "moved", "moved", defArgs s_moved, defBody s_moved, defScope s_moved, [], []⟩, ⟨("exchange", none), "exchange", "exchange", defArgs s_exchange, defBody s_exchange, defScope s_exchange, [], []⟩, ⟨("stuck", none), "stuck", "stuck", defArgs s_stuck, defBody s_stuck, defScope s_stuck, [], []⟩, ⟨("exchanged", none), "exchanged", "exchanged", defArgs s_exchanged, defBody s_exchanged, defScope s_exchanged, [], []⟩, ⟨("gone", none), "gone", "gone", defArgs s_gone, defBody s_gone, defScope s_gone, [], []⟩, ⟨("may", none), "may", "may", defArgs s_may, defBody s_may, defScope s_may, [], []⟩, ⟨("_law_at", none), "_law_at", "_law_at", defArgs s_law_at, defBody s_law_at, defScope s_law_at, [], []⟩, ⟨("_law_mixed", none), "_law_mixed", "_law_mixed", defArgs s_law_mixed, defBody s_law_mixed, defScope s_law_mixed, [], []⟩, ⟨("_law_purse", none), "_law_purse", "_law_purse", defArgs s_law_purse, defBody s_law_purse, defScope s_law_purse, [], []⟩, ⟨("_law_draw", none), "_law_draw", "_law_draw", defArgs s_law_draw, defBody s_law_draw, defScope s_law_draw, [], []⟩, ⟨("_law_words", none), "_law_words", "_law_words", defArgs s_law_words, defBody s_law_words, defScope s_law_words, [], []⟩, ⟨("_law_town", none), "_law_town", "_law_town", defArgs s_law_town, defBody s_law_town, defScope s_law_town, [], []⟩, ⟨("_law_standing", none), "_law_standing", "_law_standing", defArgs s_law_standing, defBody s_law_standing, defScope s_law_standing, [], []⟩, ⟨("_law_wealths", none), "_law_wealths", "_law_wealths", defArgs s_law_wealths, defBody s_law_wealths, defScope s_law_wealths, [], []⟩, ⟨("_law_stands", none), "_law_stands", "_law_stands", defArgs s_law_stands, defBody s_law_stands, defScope s_law_stands, [], []⟩, ⟨("_law_placed", none), "_law_placed", "_law_placed", defArgs s_law_placed, defBody s_law_placed, defScope s_law_placed, [], []⟩, ⟨("_law_short", none), "_law_short", "_law_short", defArgs s_law_short, defBody s_law_short, defScope s_law_short, [], []⟩, ⟨("_law_is_road", none), "_law_is_road", "_law_is_road", defArgs s_law_is_road, defBody s_law_is_road, defScope s_law_is_road, [], []⟩, ⟨("_law_caught", none), "_law_caught", "_law_caught", defArgs s_law_caught, defBody s_law_caught, defScope s_law_caught, [], []⟩, ⟨("_law_swapped", none), "_law_swapped", "_law_swapped", defArgs s_law_swapped, defBody s_law_swapped, defScope s_law_swapped, [], []⟩, ⟨("_law_row_right", none), "_law_row_right", "_law_row_right", defArgs s_law_row_right, defBody s_law_row_right, defScope s_law_row_right, [], []⟩, ⟨("_law_may_right", none), "_law_may_right", "_law_may_right", defArgs s_law_may_right, defBody s_law_may_right, defScope s_law_may_right, [], []⟩, ⟨("_law_odd", none), "_law_odd", "_law_odd", defArgs s_law_odd, defBody s_law_odd, defScope s_law_odd, [], []⟩, ⟨("law", none), "law", "law", defArgs s_law, defBody s_law, defScope s_law, [], []⟩, ⟨("NoTown", some "__init__"), "__init__", "NoTown.__init__", defArgs i_NoTown, defBody i_NoTown, defScope i_NoTown, [.non], []⟩, ⟨("NoStanding", some "__init__"), "__init__", "NoStanding.__init__", defArgs i_NoStanding, defBody i_NoStanding, defScope i_NoStanding, [.non], []⟩, ⟨("Short", some "__init__"), "__init__", "Short.__init__", defArgs i_Short, defBody i_Short, defScope i_Short, [.non, .non, .non], []⟩, ⟨("NoRoad", some "__init__"), "__init__", "NoRoad.__init__", defArgs i_NoRoad, defBody i_NoRoad, defScope i_NoRoad, [.non, .non], []⟩]
def htf : List He.Defn := [("is_name", none)]
def fieldsB (K : PySem.W.Frag) (c : Str) : List Str → Bool
  | [] => true
  | f :: r => decide (PySem.W.findIn K (.ref (He.ga K c)) f = some none) && fieldsB K c r
theorem fieldsB_ok {K : PySem.W.Frag} {c : Str} : ∀ {l : List Str}, fieldsB K c l = true → ∀ f ∈ l, PySem.W.findIn K (.ref (He.ga K c)) f = some none
  | [], _, f, h => by cases h
  | g :: r, e, f, h => by
    have e2 : (decide (PySem.W.findIn K (.ref (He.ga K c)) g = some none) && fieldsB K c r) = true := e
    rw [Bool.and_eq_true, decide_eq_true_eq] at e2
    rcases List.mem_cons.mp h with rfl | h
    · exact e2.1
    · exact fieldsB_ok e2.2 f h
def excB (K : PySem.W.Frag) (c : Str) (fs : List Str) : Bool := oexB K (He.ga K c) && (excIB K (He.ga K c) && (fieldsB K c fs && (decide (PySem.W.findIn K (.ref (He.ga K c)) "__init__" = some (some (.ref (He.ma K (He.ga K c) "__init__")))) &&
  (decide (PySem.W.typeIn K (.ref (He.ma K (He.ga K c) "__init__")) = some (.type "function")) && decide (PySem.W.exmOne K (.ref (He.ga K c)) (.ref (He.ga K "TownError")) = some true)))))
def exc0B (K : PySem.W.Frag) (c : Str) : Bool := PySem.W.excIn K (He.ga K c) [.type "ValueError", .type "Exception", .type "BaseException", .type "object"] "ValueError.__new__" && (PySem.W.keepIn K (.ref (He.ga K c)) && (decide (PySem.W.subIn K (.ref (He.ga K c)) (.type "BaseException") = some true) && (decide (PySem.W.typeIn K (.ref (He.ga K c)) = some (.type "type")) && (excIB K (He.ga K c) && decide (PySem.W.exmOne K (.ref (He.ga K c)) (.ref (He.ga K "TownError")) = some true)))))
def kitB2 (K : PySem.W.Frag) (a b : Str) (r : Bool) : Bool := decide (PySem.W.kitOne K (.ref (He.ga K a)) (.ref (He.ga K b)) = some r)
def hex (K : PySem.W.Frag) : Bool := excB K "NoTown" ["wrong"] && (excB K "NoStanding" ["wrong"] && (excB K "NoRoad" ["pair", "at"] && (excB K "Short" ["hand", "lacks", "at"] && (exc0B K "NoRow" &&
  (kitB2 K "NoRoad" "NoRoad" true && (kitB2 K "Short" "NoRoad" false && (kitB2 K "Short" "Short" true && (kitB2 K "NoRow" "NoRoad" false && (kitB2 K "NoRow" "Short" false && kitB2 K "NoRow" "NoRow" true)))))))))
abbrev hR : PySem.W.OpenRow := PySem.W.OpenLaw.row PySem.Challenge.rw_worthrooms_k05_exchanges
abbrev hH : PySem.W.Hook := He.hookX 6 hfa hfn [] htf hex
def hob (s : PySem.W.SharedT) : He.AlX := He.obsX 6 hfa hfn [] htf hex (HandSHeadRun.getT s)
theorem hob_eq (s : PySem.W.SharedT) : hob s = hH.obs s.abs := He.obsX_eq (HandSHeadRun.getT_eq s)
section
variable {P : Program} {w : World} {K : PySem.W.Frag} {mg : Str → Option Value} {base : Heap} {c q : Str} {i : Stmt} {fd : FuncData} {p1 p2 p3 p4 p5 p6 p7 p8 p9 p10 p11 p12 : Pos}
theorem excF_of {f : Str} (h : excB K c [f] = true) (g : mg c = some (.ref (He.ga K c)))
    (F : FunD K "__init__" q (defArgs i) [.Assign [.Attribute (.Name "self" p1) f p2] (.Name f p3) p4] (defScope i) [.non] [] (He.ma K (He.ga K c) "__init__") fd) (S : FnScope ["self", f] ["self", f] (defScope i)) (hb : Binds K fd ["self", f] [])
    (v1 : (defScope i).names.lookup ("self" : Str) = some NameKind.local) (v2 : (defScope i).names.lookup f = some NameKind.local) (d2 : (f == ("__debug__" : Str)) = false) (d3 : (f == ("__classdict__" : Str)) = false) :
    ExcF P w K mg base c f (He.ga K c) ∧ PySem.W.exmOne K (.ref (He.ga K c)) (.ref (He.ga K "TownError")) = some true := by
  unfold excB at h
  simp only [Bool.and_eq_true, decide_eq_true_eq] at h
  obtain ⟨h1, h2, h3, h4, h5, h6⟩ := h
  have O := oexB_ok h1
  have n1 := fieldsB_ok h3 f List.mem_cons_self
  exact ⟨⟨g, O, excIB_ok h2, n1, ⟨_, fd, h4, h5, ok_init F S O n1 v1 v2 d2 d3, hb⟩⟩, h6⟩
theorem exc2_of {f g2 : Str} (h : excB K c [f, g2] = true) (g : mg c = some (.ref (He.ga K c)))
    (F : FunD K "__init__" q (defArgs i) [.Assign [.Attribute (.Name "self" p1) f p2] (.Name f p3) p4, .Assign [.Attribute (.Name "self" p5) g2 p6] (.Name g2 p7) p8] (defScope i) [.non, .non] [] (He.ma K (He.ga K c) "__init__") fd) (S : FnScope ["self", f, g2] ["self", f, g2] (defScope i)) (hb : Binds K fd ["self", f, g2] [])
    (v1 : (defScope i).names.lookup ("self" : Str) = some NameKind.local) (v2 : (defScope i).names.lookup f = some NameKind.local) (v3 : (defScope i).names.lookup g2 = some NameKind.local) (d2 : (f == ("__debug__" : Str)) = false) (d3 : (f == ("__classdict__" : Str)) = false) (d4 : (g2 == ("__debug__" : Str)) = false) (d5 : (g2 == ("__classdict__" : Str)) = false) :
    ExcN P w K mg base c [f, g2] 2 (fs2 f g2) (He.ga K c) ∧ PySem.W.exmOne K (.ref (He.ga K c)) (.ref (He.ga K "TownError")) = some true := by
  unfold excB at h
  simp only [Bool.and_eq_true, decide_eq_true_eq] at h
  obtain ⟨h1, h2, h3, h4, h5, h6⟩ := h
  have O := oexB_ok h1
  have n := fieldsB_ok h3
  exact ⟨⟨g, O, excIB_ok h2, n, ⟨_, fd, h4, h5, ok_init2 F S O (n _ (by simp)) (n _ (by simp)) v1 v2 v3 d2 d3 d4 d5, hb⟩⟩, h6⟩
theorem exc3_of {f g2 g3 : Str} (h : excB K c [f, g2, g3] = true) (g : mg c = some (.ref (He.ga K c)))
    (F : FunD K "__init__" q (defArgs i) [.Assign [.Attribute (.Name "self" p1) f p2] (.Name f p3) p4, .Assign [.Attribute (.Name "self" p5) g2 p6] (.Name g2 p7) p8, .Assign [.Attribute (.Name "self" p9) g3 p10] (.Name g3 p11) p12] (defScope i) [.non, .non, .non] [] (He.ma K (He.ga K c) "__init__") fd) (S : FnScope ["self", f, g2, g3] ["self", f, g2, g3] (defScope i)) (hb : Binds K fd ["self", f, g2, g3] [])
    (v1 : (defScope i).names.lookup ("self" : Str) = some NameKind.local) (v2 : (defScope i).names.lookup f = some NameKind.local) (v3 : (defScope i).names.lookup g2 = some NameKind.local) (v4 : (defScope i).names.lookup g3 = some NameKind.local) (d2 : (f == ("__debug__" : Str)) = false) (d3 : (f == ("__classdict__" : Str)) = false) (d4 : (g2 == ("__debug__" : Str)) = false) (d5 : (g2 == ("__classdict__" : Str)) = false) (d6 : (g3 == ("__debug__" : Str)) = false) (d7 : (g3 == ("__classdict__" : Str)) = false) :
    ExcN P w K mg base c [f, g2, g3] 3 (fs3 f g2 g3) (He.ga K c) ∧ PySem.W.exmOne K (.ref (He.ga K c)) (.ref (He.ga K "TownError")) = some true := by
  unfold excB at h
  simp only [Bool.and_eq_true, decide_eq_true_eq] at h
  obtain ⟨h1, h2, h3, h4, h5, h6⟩ := h
  have O := oexB_ok h1
  have n := fieldsB_ok h3
  exact ⟨⟨g, O, excIB_ok h2, n, ⟨_, fd, h4, h5, ok_init3 F S O (n _ (by simp)) (n _ (by simp)) (n _ (by simp)) v1 v2 v3 v4 d2 d3 d4 d5 d6 d7, hb⟩⟩, h6⟩
theorem exc0_of (h : exc0B K c = true) (g : mg c = some (.ref (He.ga K c))) : Exc0 K mg c (He.ga K c) ∧ PySem.W.exmOne K (.ref (He.ga K c)) (.ref (He.ga K "TownError")) = some true := by
  unfold exc0B at h
  simp only [Bool.and_eq_true, decide_eq_true_eq] at h
  obtain ⟨h1, h2, h3, h4, h5, h6⟩ := h
  exact ⟨⟨g, ⟨_, _, _, _, PySem.F.excBase_ValueError, h1⟩, h2, h3, h4, excIB_ok h5⟩, h6⟩
end
end WR
namespace WR
open PySem PySem.Spec PyProof.Rows L2
theorem hrun (w : World) : HandSHeadRun.RunEq hR (PySem.W.view hR.prog [52]) hH hob 4000 ((["__name__", "TownError", "NoRow", "NoTown", "NoStanding", "Short", "NoRoad", "LETTERS", "SIGNS", "is_whole", "is_name", "is_pair", "is_text_pair", "is_entry", "bad_home"] : List Str) ++ (["bad_road", "town_wrong", "check_town", "standing_wrong", "check_standing", "wealth_by_hand", "hands_at", "wealths", "stands_of", "road_ends", "shortage", "moved", "exchange", "stuck", "exchanged"] : List Str) ++ (["gone", "may", "_law_at", "_law_mixed", "_law_purse", "_law_draw", "_law_words", "_law_town", "_law_standing", "_law_wealths", "_law_stands", "_law_placed", "_law_short", "_law_is_road", "_law_caught"] : List Str) ++ (["_law_swapped", "_law_row_right", "_law_may_right", "_law_odd"] : List Str)) w := by
  intro os
  kernel_rfl
end WR
namespace WR
open PySem PySem.Spec PyProof.Rows L2
theorem law_true {P : Program} {w : World} {K : PySem.W.Frag} {h : Heap} {mg : Str → Option Value} (X : K.In h) (G : h.Ns mainGlobals mg) (c : He.SaysX hfa hfn [] htf hex w h K) {base : Heap} {s : Shared} {H : Hp} {a : Addr} {ns : List Int} (hbase : base.Ns mainGlobals mg)
    (TB : LamX.TabB base mg (He.cT K ("is_name", none)).1 (He.cT K ("is_name", none)).2) (e0 : Env0 P w K mg base callerA [] s H) (hT : H (He.cT K ("is_name", none)).2 = some (.tbl #[])) (hS : SqL K H a (ns.map V.int)) :
    codeAny (model P w) callerA (.call (.ref (He.ga K "law")) { pos := [.ref a] }) (CR (L2.CX P w) [] P w H s (fun v _ => v = .bl true) fun _ _ _ => False) s := by
  have cd := c.t.d
  have hx := c.more
  obtain ⟨fd_is_whole, F_is_whole⟩ := cd.def_ 0 (d := ⟨("is_whole", none), "is_whole", "is_whole", defArgs s_is_whole, defBody s_is_whole, defScope s_is_whole, [], []⟩) rfl
  have F_is_whole : FnP K "is_whole" s_is_whole (He.ga K "is_whole") fd_is_whole := F_is_whole
  have g_is_whole : mg "is_whole" = some (.ref (He.ga K "is_whole")) := He.glo_ok X G (cd.fact 0 (f := .glo "is_whole") rfl)
  have b_is_whole : Binds K fd_is_whole P_is_whole [] := F_is_whole.bindsN fun _ _ _ _ _ _ us hl => match us, hl with | [_], _ => rfl
  obtain ⟨fd_is_name, F_is_name⟩ := cd.def_ 1 (d := ⟨("is_name", none), "is_name", "is_name", defArgs s_is_name, defBody s_is_name, defScope s_is_name, [], []⟩) rfl
  have F_is_name : FnP K "is_name" s_is_name (He.ga K "is_name") fd_is_name := F_is_name
  have g_is_name : mg "is_name" = some (.ref (He.ga K "is_name")) := He.glo_ok X G (cd.fact 1 (f := .glo "is_name") rfl)
  have b_is_name : Binds K fd_is_name P_is_name [] := F_is_name.bindsN fun _ _ _ _ _ _ us hl => match us, hl with | [_], _ => rfl
  obtain ⟨fd_is_pair, F_is_pair⟩ := cd.def_ 2 (d := ⟨("is_pair", none), "is_pair", "is_pair", defArgs s_is_pair, defBody s_is_pair, defScope s_is_pair, [], []⟩) rfl
  have F_is_pair : FnP K "is_pair" s_is_pair (He.ga K "is_pair") fd_is_pair := F_is_pair
  have g_is_pair : mg "is_pair" = some (.ref (He.ga K "is_pair")) := He.glo_ok X G (cd.fact 2 (f := .glo "is_pair") rfl)
  have b_is_pair : Binds K fd_is_pair P_is_pair [] := F_is_pair.bindsN fun _ _ _ _ _ _ us hl => match us, hl with | [_], _ => rfl
  obtain ⟨fd_is_text_pair, F_is_text_pair⟩ := cd.def_ 3 (d := ⟨("is_text_pair", none), "is_text_pair", "is_text_pair", defArgs s_is_text_pair, defBody s_is_text_pair, defScope s_is_text_pair, [], []⟩) rfl
  have F_is_text_pair : FnP K "is_text_pair" s_is_text_pair (He.ga K "is_text_pair") fd_is_text_pair := F_is_text_pair
  have g_is_text_pair : mg "is_text_pair" = some (.ref (He.ga K "is_text_pair")) := He.glo_ok X G (cd.fact 3 (f := .glo "is_text_pair") rfl)
  have b_is_text_pair : Binds K fd_is_text_pair P_is_text_pair [] := F_is_text_pair.bindsN fun _ _ _ _ _ _ us hl => match us, hl with | [_], _ => rfl
  obtain ⟨fd_is_entry, F_is_entry⟩ := cd.def_ 4 (d := ⟨("is_entry", none), "is_entry", "is_entry", defArgs s_is_entry, defBody s_is_entry, defScope s_is_entry, [], []⟩) rfl
  have F_is_entry : FnP K "is_entry" s_is_entry (He.ga K "is_entry") fd_is_entry := F_is_entry
  have g_is_entry : mg "is_entry" = some (.ref (He.ga K "is_entry")) := He.glo_ok X G (cd.fact 4 (f := .glo "is_entry") rfl)
  have b_is_entry : Binds K fd_is_entry P_is_entry [] := F_is_entry.bindsN fun _ _ _ _ _ _ us hl => match us, hl with | [_], _ => rfl
  obtain ⟨fd_bad_home, F_bad_home⟩ := cd.def_ 5 (d := ⟨("bad_home", none), "bad_home", "bad_home", defArgs s_bad_home, defBody s_bad_home, defScope s_bad_home, [], []⟩) rfl
  have F_bad_home : FnP K "bad_home" s_bad_home (He.ga K "bad_home") fd_bad_home := F_bad_home
  have g_bad_home : mg "bad_home" = some (.ref (He.ga K "bad_home")) := He.glo_ok X G (cd.fact 5 (f := .glo "bad_home") rfl)
  have b_bad_home : Binds K fd_bad_home P_bad_home [] := F_bad_home.bindsN fun _ _ _ _ _ _ us hl => match us, hl with | [_], _ => rfl
  obtain ⟨fd_bad_road, F_bad_road⟩ := cd.def_ 6 (d := ⟨("bad_road", none), "bad_road", "bad_road", defArgs s_bad_road, defBody s_bad_road, defScope s_bad_road, [], []⟩) rfl
  have F_bad_road : FnP K "bad_road" s_bad_road (He.ga K "bad_road") fd_bad_road := F_bad_road
  have g_bad_road : mg "bad_road" = some (.ref (He.ga K "bad_road")) := He.glo_ok X G (cd.fact 6 (f := .glo "bad_road") rfl)
  have b_bad_road : Binds K fd_bad_road P_bad_road [] := F_bad_road.bindsN fun _ _ _ _ _ _ us hl => match us, hl with | [_, _], _ => rfl
  obtain ⟨fd_town_wrong, F_town_wrong⟩ := cd.def_ 7 (d := ⟨("town_wrong", none), "town_wrong", "town_wrong", defArgs s_town_wrong, defBody s_town_wrong, defScope s_town_wrong, [], []⟩) rfl
  have F_town_wrong : FnP K "town_wrong" s_town_wrong (He.ga K "town_wrong") fd_town_wrong := F_town_wrong
  have g_town_wrong : mg "town_wrong" = some (.ref (He.ga K "town_wrong")) := He.glo_ok X G (cd.fact 7 (f := .glo "town_wrong") rfl)
  have b_town_wrong : Binds K fd_town_wrong P_town_wrong [] := F_town_wrong.bindsN fun _ _ _ _ _ _ us hl => match us, hl with | [_], _ => rfl
  obtain ⟨fd_check_town, F_check_town⟩ := cd.def_ 8 (d := ⟨("check_town", none), "check_town", "check_town", defArgs s_check_town, defBody s_check_town, defScope s_check_town, [], []⟩) rfl
  have F_check_town : FnP K "check_town" s_check_town (He.ga K "check_town") fd_check_town := F_check_town
  have g_check_town : mg "check_town" = some (.ref (He.ga K "check_town")) := He.glo_ok X G (cd.fact 8 (f := .glo "check_town") rfl)
  have b_check_town : Binds K fd_check_town P_check_town [] := F_check_town.bindsN fun _ _ _ _ _ _ us hl => match us, hl with | [_], _ => rfl
  obtain ⟨fd_standing_wrong, F_standing_wrong⟩ := cd.def_ 9 (d := ⟨("standing_wrong", none), "standing_wrong", "standing_wrong", defArgs s_standing_wrong, defBody s_standing_wrong, defScope s_standing_wrong, [], []⟩) rfl
  have F_standing_wrong : FnP K "standing_wrong" s_standing_wrong (He.ga K "standing_wrong") fd_standing_wrong := F_standing_wrong
  have g_standing_wrong : mg "standing_wrong" = some (.ref (He.ga K "standing_wrong")) := He.glo_ok X G (cd.fact 9 (f := .glo "standing_wrong") rfl)
  have b_standing_wrong : Binds K fd_standing_wrong P_standing_wrong [] := F_standing_wrong.bindsN fun _ _ _ _ _ _ us hl => match us, hl with | [_, _], _ => rfl
  obtain ⟨fd_check_standing, F_check_standing⟩ := cd.def_ 10 (d := ⟨("check_standing", none), "check_standing", "check_standing", defArgs s_check_standing, defBody s_check_standing, defScope s_check_standing, [], []⟩) rfl
  have F_check_standing : FnP K "check_standing" s_check_standing (He.ga K "check_standing") fd_check_standing := F_check_standing
  have g_check_standing : mg "check_standing" = some (.ref (He.ga K "check_standing")) := He.glo_ok X G (cd.fact 10 (f := .glo "check_standing") rfl)
  have b_check_standing : Binds K fd_check_standing P_check_standing [] := F_check_standing.bindsN fun _ _ _ _ _ _ us hl => match us, hl with | [_, _], _ => rfl
  obtain ⟨fd_wealth_by_hand, F_wealth_by_hand⟩ := cd.def_ 11 (d := ⟨("wealth_by_hand", none), "wealth_by_hand", "wealth_by_hand", defArgs s_wealth_by_hand, defBody s_wealth_by_hand, defScope s_wealth_by_hand, [], []⟩) rfl
  have F_wealth_by_hand : FnP K "wealth_by_hand" s_wealth_by_hand (He.ga K "wealth_by_hand") fd_wealth_by_hand := F_wealth_by_hand
  have g_wealth_by_hand : mg "wealth_by_hand" = some (.ref (He.ga K "wealth_by_hand")) := He.glo_ok X G (cd.fact 11 (f := .glo "wealth_by_hand") rfl)
  have b_wealth_by_hand : Binds K fd_wealth_by_hand P_wealth_by_hand [] := F_wealth_by_hand.bindsN fun _ _ _ _ _ _ us hl => match us, hl with | [_, _], _ => rfl
  obtain ⟨fd_hands_at, F_hands_at⟩ := cd.def_ 12 (d := ⟨("hands_at", none), "hands_at", "hands_at", defArgs s_hands_at, defBody s_hands_at, defScope s_hands_at, [], []⟩) rfl
  have F_hands_at : FnP K "hands_at" s_hands_at (He.ga K "hands_at") fd_hands_at := F_hands_at
  have g_hands_at : mg "hands_at" = some (.ref (He.ga K "hands_at")) := He.glo_ok X G (cd.fact 12 (f := .glo "hands_at") rfl)
  have b_hands_at : Binds K fd_hands_at P_hands_at [] := F_hands_at.bindsN fun _ _ _ _ _ _ us hl => match us, hl with | [_], _ => rfl
  obtain ⟨fd_wealths, F_wealths⟩ := cd.def_ 13 (d := ⟨("wealths", none), "wealths", "wealths", defArgs s_wealths, defBody s_wealths, defScope s_wealths, [], []⟩) rfl
  have F_wealths : FnP K "wealths" s_wealths (He.ga K "wealths") fd_wealths := F_wealths
  have g_wealths : mg "wealths" = some (.ref (He.ga K "wealths")) := He.glo_ok X G (cd.fact 13 (f := .glo "wealths") rfl)
  have b_wealths : Binds K fd_wealths P_wealths [] := F_wealths.bindsN fun _ _ _ _ _ _ us hl => match us, hl with | [_, _], _ => rfl
  obtain ⟨fd_stands_of, F_stands_of⟩ := cd.def_ 14 (d := ⟨("stands_of", none), "stands_of", "stands_of", defArgs s_stands_of, defBody s_stands_of, defScope s_stands_of, [], []⟩) rfl
  have F_stands_of : FnP K "stands_of" s_stands_of (He.ga K "stands_of") fd_stands_of := F_stands_of
  have g_stands_of : mg "stands_of" = some (.ref (He.ga K "stands_of")) := He.glo_ok X G (cd.fact 14 (f := .glo "stands_of") rfl)
  have b_stands_of : Binds K fd_stands_of P_stands_of [] := F_stands_of.bindsN fun _ _ _ _ _ _ us hl => match us, hl with | [_, _], _ => rfl
  obtain ⟨fd_road_ends, F_road_ends⟩ := cd.def_ 15 (d := ⟨("road_ends", none), "road_ends", "road_ends", defArgs s_road_ends, defBody s_road_ends, defScope s_road_ends, [], []⟩) rfl
  have F_road_ends : FnP K "road_ends" s_road_ends (He.ga K "road_ends") fd_road_ends := F_road_ends
  have g_road_ends : mg "road_ends" = some (.ref (He.ga K "road_ends")) := He.glo_ok X G (cd.fact 15 (f := .glo "road_ends") rfl)
  have b_road_ends : Binds K fd_road_ends P_road_ends [] := F_road_ends.bindsN fun _ _ _ _ _ _ us hl => match us, hl with | [_], _ => rfl
  obtain ⟨fd_shortage, F_shortage⟩ := cd.def_ 16 (d := ⟨("shortage", none), "shortage", "shortage", defArgs s_shortage, defBody s_shortage, defScope s_shortage, [], []⟩) rfl
  have F_shortage : FnP K "shortage" s_shortage (He.ga K "shortage") fd_shortage := F_shortage
  have g_shortage : mg "shortage" = some (.ref (He.ga K "shortage")) := He.glo_ok X G (cd.fact 16 (f := .glo "shortage") rfl)
  have b_shortage : Binds K fd_shortage P_shortage [] := F_shortage.bindsN fun _ _ _ _ _ _ us hl => match us, hl with | [_, _, _, _], _ => rfl
  obtain ⟨fd_moved, F_moved⟩ := cd.def_ 17 (d := ⟨("moved", none), "moved", "moved", defArgs s_moved, defBody s_moved, defScope s_moved, [], []⟩) rfl
  have F_moved : FnP K "moved" s_moved (He.ga K "moved") fd_moved := F_moved
  have g_moved : mg "moved" = some (.ref (He.ga K "moved")) := He.glo_ok X G (cd.fact 17 (f := .glo "moved") rfl)
  have b_moved : Binds K fd_moved P_moved [] := F_moved.bindsN fun _ _ _ _ _ _ us hl => match us, hl with | [_, _], _ => rfl
  obtain ⟨fd_exchange, F_exchange⟩ := cd.def_ 18 (d := ⟨("exchange", none), "exchange", "exchange", defArgs s_exchange, defBody s_exchange, defScope s_exchange, [], []⟩) rfl
  have F_exchange : FnP K "exchange" s_exchange (He.ga K "exchange") fd_exchange := F_exchange
  have g_exchange : mg "exchange" = some (.ref (He.ga K "exchange")) := He.glo_ok X G (cd.fact 18 (f := .glo "exchange") rfl)
  have b_exchange : Binds K fd_exchange P_exchange [] := F_exchange.bindsN fun _ _ _ _ _ _ us hl => match us, hl with | [_, _, _, _], _ => rfl
  obtain ⟨fd_stuck, F_stuck⟩ := cd.def_ 19 (d := ⟨("stuck", none), "stuck", "stuck", defArgs s_stuck, defBody s_stuck, defScope s_stuck, [], []⟩) rfl
  have F_stuck : FnP K "stuck" s_stuck (He.ga K "stuck") fd_stuck := F_stuck
  have g_stuck : mg "stuck" = some (.ref (He.ga K "stuck")) := He.glo_ok X G (cd.fact 19 (f := .glo "stuck") rfl)
  have b_stuck : Binds K fd_stuck P_stuck [] := F_stuck.bindsN fun _ _ _ _ _ _ us hl => match us, hl with | [_, _, _], _ => rfl
  obtain ⟨fd_exchanged, F_exchanged⟩ := cd.def_ 20 (d := ⟨("exchanged", none), "exchanged", "exchanged", defArgs s_exchanged, defBody s_exchanged, defScope s_exchanged, [], []⟩) rfl
  have F_exchanged : FnP K "exchanged" s_exchanged (He.ga K "exchanged") fd_exchanged := F_exchanged
  have g_exchanged : mg "exchanged" = some (.ref (He.ga K "exchanged")) := He.glo_ok X G (cd.fact 20 (f := .glo "exchanged") rfl)
  have b_exchanged : Binds K fd_exchanged P_exchanged [] := F_exchanged.bindsN fun _ _ _ _ _ _ us hl => match us, hl with | [_, _, _], _ => rfl
  obtain ⟨fd_gone, F_gone⟩ := cd.def_ 21 (d := ⟨("gone", none), "gone", "gone", defArgs s_gone, defBody s_gone, defScope s_gone, [], []⟩) rfl
  have F_gone : FnP K "gone" s_gone (He.ga K "gone") fd_gone := F_gone
  have g_gone : mg "gone" = some (.ref (He.ga K "gone")) := He.glo_ok X G (cd.fact 21 (f := .glo "gone") rfl)
  have b_gone : Binds K fd_gone P_gone [] := F_gone.bindsN fun _ _ _ _ _ _ us hl => match us, hl with | [_, _, _], _ => rfl
  obtain ⟨fd_may, F_may⟩ := cd.def_ 22 (d := ⟨("may", none), "may", "may", defArgs s_may, defBody s_may, defScope s_may, [], []⟩) rfl
  have F_may : FnP K "may" s_may (He.ga K "may") fd_may := F_may
  have g_may : mg "may" = some (.ref (He.ga K "may")) := He.glo_ok X G (cd.fact 22 (f := .glo "may") rfl)
  have b_may : Binds K fd_may P_may [] := F_may.bindsN fun _ _ _ _ _ _ us hl => match us, hl with | [_, _], _ => rfl
  obtain ⟨fd_law_at, F_law_at⟩ := cd.def_ 23 (d := ⟨("_law_at", none), "_law_at", "_law_at", defArgs s_law_at, defBody s_law_at, defScope s_law_at, [], []⟩) rfl
  have F_law_at : FnP K "_law_at" s_law_at (He.ga K "_law_at") fd_law_at := F_law_at
  have g_law_at : mg "_law_at" = some (.ref (He.ga K "_law_at")) := He.glo_ok X G (cd.fact 23 (f := .glo "_law_at") rfl)
  have b_law_at : Binds K fd_law_at P_law_at [] := F_law_at.bindsN fun _ _ _ _ _ _ us hl => match us, hl with | [_, _], _ => rfl
  obtain ⟨fd_law_mixed, F_law_mixed⟩ := cd.def_ 24 (d := ⟨("_law_mixed", none), "_law_mixed", "_law_mixed", defArgs s_law_mixed, defBody s_law_mixed, defScope s_law_mixed, [], []⟩) rfl
  have F_law_mixed : FnP K "_law_mixed" s_law_mixed (He.ga K "_law_mixed") fd_law_mixed := F_law_mixed
  have g_law_mixed : mg "_law_mixed" = some (.ref (He.ga K "_law_mixed")) := He.glo_ok X G (cd.fact 24 (f := .glo "_law_mixed") rfl)
  have b_law_mixed : Binds K fd_law_mixed P_law_mixed [] := F_law_mixed.bindsN fun _ _ _ _ _ _ us hl => match us, hl with | [_, _], _ => rfl
  obtain ⟨fd_law_purse, F_law_purse⟩ := cd.def_ 25 (d := ⟨("_law_purse", none), "_law_purse", "_law_purse", defArgs s_law_purse, defBody s_law_purse, defScope s_law_purse, [], []⟩) rfl
  have F_law_purse : FnP K "_law_purse" s_law_purse (He.ga K "_law_purse") fd_law_purse := F_law_purse
  have g_law_purse : mg "_law_purse" = some (.ref (He.ga K "_law_purse")) := He.glo_ok X G (cd.fact 25 (f := .glo "_law_purse") rfl)
  have b_law_purse : Binds K fd_law_purse P_law_purse [] := F_law_purse.bindsN fun _ _ _ _ _ _ us hl => match us, hl with | [_, _], _ => rfl
  obtain ⟨fd_law_draw, F_law_draw⟩ := cd.def_ 26 (d := ⟨("_law_draw", none), "_law_draw", "_law_draw", defArgs s_law_draw, defBody s_law_draw, defScope s_law_draw, [], []⟩) rfl
  have F_law_draw : FnP K "_law_draw" s_law_draw (He.ga K "_law_draw") fd_law_draw := F_law_draw
  have g_law_draw : mg "_law_draw" = some (.ref (He.ga K "_law_draw")) := He.glo_ok X G (cd.fact 26 (f := .glo "_law_draw") rfl)
  have b_law_draw : Binds K fd_law_draw P_law_draw [] := F_law_draw.bindsN fun _ _ _ _ _ _ us hl => match us, hl with | [_, _], _ => rfl
  obtain ⟨fd_law_words, F_law_words⟩ := cd.def_ 27 (d := ⟨("_law_words", none), "_law_words", "_law_words", defArgs s_law_words, defBody s_law_words, defScope s_law_words, [], []⟩) rfl
  have F_law_words : FnP K "_law_words" s_law_words (He.ga K "_law_words") fd_law_words := F_law_words
  have g_law_words : mg "_law_words" = some (.ref (He.ga K "_law_words")) := He.glo_ok X G (cd.fact 27 (f := .glo "_law_words") rfl)
  have b_law_words : Binds K fd_law_words P_law_words [] := F_law_words.bindsN fun _ _ _ _ _ _ us hl => match us, hl with | [_, _], _ => rfl
  obtain ⟨fd_law_town, F_law_town⟩ := cd.def_ 28 (d := ⟨("_law_town", none), "_law_town", "_law_town", defArgs s_law_town, defBody s_law_town, defScope s_law_town, [], []⟩) rfl
  have F_law_town : FnP K "_law_town" s_law_town (He.ga K "_law_town") fd_law_town := F_law_town
  have g_law_town : mg "_law_town" = some (.ref (He.ga K "_law_town")) := He.glo_ok X G (cd.fact 28 (f := .glo "_law_town") rfl)
  have b_law_town : Binds K fd_law_town P_law_town [] := F_law_town.bindsN fun _ _ _ _ _ _ us hl => match us, hl with | [_, _], _ => rfl
  obtain ⟨fd_law_standing, F_law_standing⟩ := cd.def_ 29 (d := ⟨("_law_standing", none), "_law_standing", "_law_standing", defArgs s_law_standing, defBody s_law_standing, defScope s_law_standing, [], []⟩) rfl
  have F_law_standing : FnP K "_law_standing" s_law_standing (He.ga K "_law_standing") fd_law_standing := F_law_standing
  have g_law_standing : mg "_law_standing" = some (.ref (He.ga K "_law_standing")) := He.glo_ok X G (cd.fact 29 (f := .glo "_law_standing") rfl)
  have b_law_standing : Binds K fd_law_standing P_law_standing [] := F_law_standing.bindsN fun _ _ _ _ _ _ us hl => match us, hl with | [_, _], _ => rfl
  obtain ⟨fd_law_wealths, F_law_wealths⟩ := cd.def_ 30 (d := ⟨("_law_wealths", none), "_law_wealths", "_law_wealths", defArgs s_law_wealths, defBody s_law_wealths, defScope s_law_wealths, [], []⟩) rfl
  have F_law_wealths : FnP K "_law_wealths" s_law_wealths (He.ga K "_law_wealths") fd_law_wealths := F_law_wealths
  have g_law_wealths : mg "_law_wealths" = some (.ref (He.ga K "_law_wealths")) := He.glo_ok X G (cd.fact 30 (f := .glo "_law_wealths") rfl)
  have b_law_wealths : Binds K fd_law_wealths P_law_wealths [] := F_law_wealths.bindsN fun _ _ _ _ _ _ us hl => match us, hl with | [_, _], _ => rfl
  obtain ⟨fd_law_stands, F_law_stands⟩ := cd.def_ 31 (d := ⟨("_law_stands", none), "_law_stands", "_law_stands", defArgs s_law_stands, defBody s_law_stands, defScope s_law_stands, [], []⟩) rfl
  have F_law_stands : FnP K "_law_stands" s_law_stands (He.ga K "_law_stands") fd_law_stands := F_law_stands
  have g_law_stands : mg "_law_stands" = some (.ref (He.ga K "_law_stands")) := He.glo_ok X G (cd.fact 31 (f := .glo "_law_stands") rfl)
  have b_law_stands : Binds K fd_law_stands P_law_stands [] := F_law_stands.bindsN fun _ _ _ _ _ _ us hl => match us, hl with | [_], _ => rfl
  obtain ⟨fd_law_placed, F_law_placed⟩ := cd.def_ 32 (d := ⟨("_law_placed", none), "_law_placed", "_law_placed", defArgs s_law_placed, defBody s_law_placed, defScope s_law_placed, [], []⟩) rfl
  have F_law_placed : FnP K "_law_placed" s_law_placed (He.ga K "_law_placed") fd_law_placed := F_law_placed
  have g_law_placed : mg "_law_placed" = some (.ref (He.ga K "_law_placed")) := He.glo_ok X G (cd.fact 32 (f := .glo "_law_placed") rfl)
  have b_law_placed : Binds K fd_law_placed P_law_placed [] := F_law_placed.bindsN fun _ _ _ _ _ _ us hl => match us, hl with | [_, _, _], _ => rfl
  obtain ⟨fd_law_short, F_law_short⟩ := cd.def_ 33 (d := ⟨("_law_short", none), "_law_short", "_law_short", defArgs s_law_short, defBody s_law_short, defScope s_law_short, [], []⟩) rfl
  have F_law_short : FnP K "_law_short" s_law_short (He.ga K "_law_short") fd_law_short := F_law_short
  have g_law_short : mg "_law_short" = some (.ref (He.ga K "_law_short")) := He.glo_ok X G (cd.fact 33 (f := .glo "_law_short") rfl)
  have b_law_short : Binds K fd_law_short P_law_short [] := F_law_short.bindsN fun _ _ _ _ _ _ us hl => match us, hl with | [_, _, _, _], _ => rfl
  obtain ⟨fd_law_is_road, F_law_is_road⟩ := cd.def_ 34 (d := ⟨("_law_is_road", none), "_law_is_road", "_law_is_road", defArgs s_law_is_road, defBody s_law_is_road, defScope s_law_is_road, [], []⟩) rfl
  have F_law_is_road : FnP K "_law_is_road" s_law_is_road (He.ga K "_law_is_road") fd_law_is_road := F_law_is_road
  have g_law_is_road : mg "_law_is_road" = some (.ref (He.ga K "_law_is_road")) := He.glo_ok X G (cd.fact 34 (f := .glo "_law_is_road") rfl)
  have b_law_is_road : Binds K fd_law_is_road P_law_is_road [] := F_law_is_road.bindsN fun _ _ _ _ _ _ us hl => match us, hl with | [_, _], _ => rfl
  obtain ⟨fd_law_caught, F_law_caught⟩ := cd.def_ 35 (d := ⟨("_law_caught", none), "_law_caught", "_law_caught", defArgs s_law_caught, defBody s_law_caught, defScope s_law_caught, [], []⟩) rfl
  have F_law_caught : FnP K "_law_caught" s_law_caught (He.ga K "_law_caught") fd_law_caught := F_law_caught
  have g_law_caught : mg "_law_caught" = some (.ref (He.ga K "_law_caught")) := He.glo_ok X G (cd.fact 35 (f := .glo "_law_caught") rfl)
  have b_law_caught : Binds K fd_law_caught P_law_caught [] := F_law_caught.bindsN fun _ _ _ _ _ _ us hl => match us, hl with | [_, _, _, _], _ => rfl
  obtain ⟨fd_law_swapped, F_law_swapped⟩ := cd.def_ 36 (d := ⟨("_law_swapped", none), "_law_swapped", "_law_swapped", defArgs s_law_swapped, defBody s_law_swapped, defScope s_law_swapped, [], []⟩) rfl
  have F_law_swapped : FnP K "_law_swapped" s_law_swapped (He.ga K "_law_swapped") fd_law_swapped := F_law_swapped
  have g_law_swapped : mg "_law_swapped" = some (.ref (He.ga K "_law_swapped")) := He.glo_ok X G (cd.fact 36 (f := .glo "_law_swapped") rfl)
  have b_law_swapped : Binds K fd_law_swapped P_law_swapped [] := F_law_swapped.bindsN fun _ _ _ _ _ _ us hl => match us, hl with | [_, _, _], _ => rfl
  obtain ⟨fd_law_row_right, F_law_row_right⟩ := cd.def_ 37 (d := ⟨("_law_row_right", none), "_law_row_right", "_law_row_right", defArgs s_law_row_right, defBody s_law_row_right, defScope s_law_row_right, [], []⟩) rfl
  have F_law_row_right : FnP K "_law_row_right" s_law_row_right (He.ga K "_law_row_right") fd_law_row_right := F_law_row_right
  have g_law_row_right : mg "_law_row_right" = some (.ref (He.ga K "_law_row_right")) := He.glo_ok X G (cd.fact 37 (f := .glo "_law_row_right") rfl)
  have b_law_row_right : Binds K fd_law_row_right P_law_row_right [] := F_law_row_right.bindsN fun _ _ _ _ _ _ us hl => match us, hl with | [_, _, _], _ => rfl
  obtain ⟨fd_law_may_right, F_law_may_right⟩ := cd.def_ 38 (d := ⟨("_law_may_right", none), "_law_may_right", "_law_may_right", defArgs s_law_may_right, defBody s_law_may_right, defScope s_law_may_right, [], []⟩) rfl
  have F_law_may_right : FnP K "_law_may_right" s_law_may_right (He.ga K "_law_may_right") fd_law_may_right := F_law_may_right
  have g_law_may_right : mg "_law_may_right" = some (.ref (He.ga K "_law_may_right")) := He.glo_ok X G (cd.fact 38 (f := .glo "_law_may_right") rfl)
  have b_law_may_right : Binds K fd_law_may_right P_law_may_right [] := F_law_may_right.bindsN fun _ _ _ _ _ _ us hl => match us, hl with | [_, _], _ => rfl
  obtain ⟨fd_law_odd, F_law_odd⟩ := cd.def_ 39 (d := ⟨("_law_odd", none), "_law_odd", "_law_odd", defArgs s_law_odd, defBody s_law_odd, defScope s_law_odd, [], []⟩) rfl
  have F_law_odd : FnP K "_law_odd" s_law_odd (He.ga K "_law_odd") fd_law_odd := F_law_odd
  have g_law_odd : mg "_law_odd" = some (.ref (He.ga K "_law_odd")) := He.glo_ok X G (cd.fact 39 (f := .glo "_law_odd") rfl)
  have b_law_odd : Binds K fd_law_odd P_law_odd [] := F_law_odd.bindsN fun _ _ _ _ _ _ us hl => match us, hl with | [_, _], _ => rfl
  obtain ⟨fd_law, F_law⟩ := cd.def_ 40 (d := ⟨("law", none), "law", "law", defArgs s_law, defBody s_law, defScope s_law, [], []⟩) rfl
  have F_law : FnP K "law" s_law (He.ga K "law") fd_law := F_law
  have g_law : mg "law" = some (.ref (He.ga K "law")) := He.glo_ok X G (cd.fact 40 (f := .glo "law") rfl)
  have b_law : Binds K fd_law P_law [] := F_law.bindsN fun _ _ _ _ _ _ us hl => match us, hl with | [_], _ => rfl
  obtain ⟨fd_NoTown, F_NoTown⟩ := cd.def_ 41 (d := ⟨("NoTown", some "__init__"), "__init__", "NoTown.__init__", defArgs i_NoTown, defBody i_NoTown, defScope i_NoTown, [.non], []⟩) rfl
  have g_NoTown : mg "NoTown" = some (.ref (He.ga K "NoTown")) := He.glo_ok X G (cd.fact 41 (f := .glo "NoTown") rfl)
  have F_NoTown : FunD K "__init__" "NoTown.__init__" (defArgs i_NoTown) (defBody i_NoTown) (defScope i_NoTown) [.non] [] (He.ma K (He.ga K "NoTown") "__init__") fd_NoTown := F_NoTown
  have bi_NoTown : Binds K fd_NoTown ["self", "wrong"] [] := by
    obtain ⟨ds, hv, hb⟩ := F_NoTown.binds1 (ps := ["self", "wrong"]) 2 1 (by simp) rfl fun _ _ _ _ _ _ _ us its h1 h2 => match us, its, h1, h2 with | [_, _], [_], _, _ => ⟨_, rfl, rfl⟩
    cases hv
    exact hb
  obtain ⟨fd_NoStanding, F_NoStanding⟩ := cd.def_ 42 (d := ⟨("NoStanding", some "__init__"), "__init__", "NoStanding.__init__", defArgs i_NoStanding, defBody i_NoStanding, defScope i_NoStanding, [.non], []⟩) rfl
  have g_NoStanding : mg "NoStanding" = some (.ref (He.ga K "NoStanding")) := He.glo_ok X G (cd.fact 42 (f := .glo "NoStanding") rfl)
  have F_NoStanding : FunD K "__init__" "NoStanding.__init__" (defArgs i_NoStanding) (defBody i_NoStanding) (defScope i_NoStanding) [.non] [] (He.ma K (He.ga K "NoStanding") "__init__") fd_NoStanding := F_NoStanding
  have bi_NoStanding : Binds K fd_NoStanding ["self", "wrong"] [] := by
    obtain ⟨ds, hv, hb⟩ := F_NoStanding.binds1 (ps := ["self", "wrong"]) 2 1 (by simp) rfl fun _ _ _ _ _ _ _ us its h1 h2 => match us, its, h1, h2 with | [_, _], [_], _, _ => ⟨_, rfl, rfl⟩
    cases hv
    exact hb
  have g_NoRow : mg "NoRow" = some (.ref (He.ga K "NoRow")) := He.glo_ok X G (cd.fact 43 (f := .glo "NoRow") rfl)
  obtain ⟨fd_Short, F_Short⟩ := cd.def_ 43 (d := ⟨("Short", some "__init__"), "__init__", "Short.__init__", defArgs i_Short, defBody i_Short, defScope i_Short, [.non, .non, .non], []⟩) rfl
  have g_Short : mg "Short" = some (.ref (He.ga K "Short")) := He.glo_ok X G (cd.fact 44 (f := .glo "Short") rfl)
  have F_Short : FunD K "__init__" "Short.__init__" (defArgs i_Short) (defBody i_Short) (defScope i_Short) [.non, .non, .non] [] (He.ma K (He.ga K "Short") "__init__") fd_Short := F_Short
  have bi_Short : Binds K fd_Short ["self", "hand", "lacks", "at"] [] := by
    obtain ⟨ds, hv, hb⟩ := F_Short.binds1 (ps := ["self", "hand", "lacks", "at"]) 4 3 (by simp) rfl fun _ _ _ _ _ _ _ us its h1 h2 => match us, its, h1, h2 with | [_, _, _, _], [_, _, _], _, _ => ⟨_, rfl, rfl⟩
    cases hv
    exact hb
  obtain ⟨fd_NoRoad, F_NoRoad⟩ := cd.def_ 44 (d := ⟨("NoRoad", some "__init__"), "__init__", "NoRoad.__init__", defArgs i_NoRoad, defBody i_NoRoad, defScope i_NoRoad, [.non, .non], []⟩) rfl
  have g_NoRoad : mg "NoRoad" = some (.ref (He.ga K "NoRoad")) := He.glo_ok X G (cd.fact 45 (f := .glo "NoRoad") rfl)
  have F_NoRoad : FunD K "__init__" "NoRoad.__init__" (defArgs i_NoRoad) (defBody i_NoRoad) (defScope i_NoRoad) [.non, .non] [] (He.ma K (He.ga K "NoRoad") "__init__") fd_NoRoad := F_NoRoad
  have bi_NoRoad : Binds K fd_NoRoad ["self", "pair", "at"] [] := by
    obtain ⟨ds, hv, hb⟩ := F_NoRoad.binds1 (ps := ["self", "pair", "at"]) 3 2 (by simp) rfl fun _ _ _ _ _ _ _ us its h1 h2 => match us, its, h1, h2 with | [_, _, _], [_, _], _, _ => ⟨_, rfl, rfl⟩
    cases hv
    exact hb
  have g_TownError : mg "TownError" = some (.ref (He.ga K "TownError")) := He.glo_ok X G (cd.fact 46 (f := .glo "TownError") rfl)
  obtain ⟨t_LETTERS, g_LETTERS⟩ := He.str_ok X G (cd.fact 47 (f := .str "LETTERS" letters) rfl)
  obtain ⟨t_SIGNS, g_SIGNS⟩ := He.str_ok X G (cd.fact 48 (f := .str "SIGNS" signs) rfl)
  have fr : Free mg := by
    intro x hx
    simp only [frees, List.mem_cons, List.not_mem_nil, or_false] at hx
    rcases hx with rfl | rfl | rfl | rfl | rfl | rfl | rfl | rfl | rfl | rfl | rfl | rfl | rfl | rfl | rfl | rfl | rfl | rfl | rfl | rfl
    · exact He.free_ok X G (cd.fact 49 (f := .free "isinstance") rfl)
    · exact He.free_ok X G (cd.fact 50 (f := .free "int") rfl)
    · exact He.free_ok X G (cd.fact 51 (f := .free "bool") rfl)
    · exact He.free_ok X G (cd.fact 52 (f := .free "str") rfl)
    · exact He.free_ok X G (cd.fact 53 (f := .free "tuple") rfl)
    · exact He.free_ok X G (cd.fact 54 (f := .free "list") rfl)
    · exact He.free_ok X G (cd.fact 55 (f := .free "dict") rfl)
    · exact He.free_ok X G (cd.fact 56 (f := .free "len") rfl)
    · exact He.free_ok X G (cd.fact 57 (f := .free "range") rfl)
    · exact He.free_ok X G (cd.fact 58 (f := .free "enumerate") rfl)
    · exact He.free_ok X G (cd.fact 59 (f := .free "zip") rfl)
    · exact He.free_ok X G (cd.fact 60 (f := .free "max") rfl)
    · exact He.free_ok X G (cd.fact 61 (f := .free "min") rfl)
    · exact He.free_ok X G (cd.fact 62 (f := .free "sorted") rfl)
    · exact He.free_ok X G (cd.fact 63 (f := .free "all") rfl)
    · exact He.free_ok X G (cd.fact 64 (f := .free "any") rfl)
    · exact He.free_ok X G (cd.fact 65 (f := .free "abs") rfl)
    · exact He.free_ok X G (cd.fact 66 (f := .free "repr") rfl)
    · exact He.free_ok X G (cd.fact 67 (f := .free "sum") rfl)
    · exact He.free_ok X G (cd.fact 68 (f := .free "set") rfl)
  unfold hex at hx
  simp only [Bool.and_eq_true, decide_eq_true_eq] at hx
  obtain ⟨x1, x2, x3, x4, x5, k1, k2, k3, k4, k5, k6⟩ := hx
  unfold kitB2 at k1 k2 k3 k4 k5 k6
  rw [decide_eq_true_eq] at k1 k2 k3 k4 k5 k6
  obtain ⟨xT, m1⟩ := excF_of (P := P) (w := w) (base := base) x1 g_NoTown F_NoTown sc_NoTown bi_NoTown rfl rfl (by decide) (by decide)
  obtain ⟨xS, m2⟩ := excF_of (P := P) (w := w) (base := base) x2 g_NoStanding F_NoStanding sc_NoStanding bi_NoStanding rfl rfl (by decide) (by decide)
  obtain ⟨xO, mO⟩ := exc2_of (P := P) (w := w) (base := base) x3 g_NoRoad F_NoRoad sc_NoRoad bi_NoRoad rfl rfl rfl (by decide) (by decide) (by decide) (by decide)
  obtain ⟨xH, mH⟩ := exc3_of (P := P) (w := w) (base := base) x4 g_Short F_Short sc_Short bi_Short rfl rfl rfl rfl (by decide) (by decide) (by decide) (by decide) (by decide) (by decide)
  obtain ⟨xR, mR⟩ := exc0_of x5 g_NoRow
  have hc : fd_is_name.code = .ref (He.cT K ("is_name", none)).1 := by
    obtain ⟨oc, od, dV, kV, doc, pm, an, cdv, ct, osl, e, lk, hcd, _, _⟩ := F_is_name.ex
    subst e
    obtain ⟨c0, hc0⟩ := He.codeIn_ref hcd
    have q := He.codeOf_eq (p := ("is_name", none)) lk hc0
    rw [show (He.cT K ("is_name", none)).1 = He.codeOf K ("is_name", none) from rfl, q]
    exact hc0
  generalize hTT : (He.cT K ("is_name", none)).2 = T at TB hT
  generalize hCC : (He.cT K ("is_name", none)).1 = cc at TB hc
  generalize hCT : He.ga K "NoTown" = CT at xT m1
  generalize hCS : He.ga K "NoStanding" = CS at xS m2
  generalize hCO : He.ga K "NoRoad" = CO at xO mO k1 k2 k4
  generalize hCH : He.ga K "Short" = CH at xH mH k2 k3 k5
  generalize hCR : He.ga K "NoRow" = CR at xR mR k4 k5 k6
  have c_is_whole : Cal P w K mg base "is_whole" 1 P_is_whole sp_is_whole := ⟨_, _, ok_is_whole F_is_whole fr, g_is_whole, F_is_whole.kp, b_is_whole⟩
  have c_is_pair : Cal P w K mg base "is_pair" 1 P_is_pair sp_is_pair := ⟨_, _, ok_is_pair F_is_pair fr, g_is_pair, F_is_pair.kp, b_is_pair⟩
  have c_is_name : Cal P w K mg base "is_name" 1 P_is_name (sp_is_name T) := ⟨_, _, ok_is_name F_is_name fr hc ⟨TB.code, TB.bm, TB.gP⟩ hbase g_SIGNS g_LETTERS, g_is_name, F_is_name.kp, b_is_name⟩
  have c_is_text_pair : Cal P w K mg base "is_text_pair" 2 P_is_text_pair sp_is_text_pair := ⟨_, _, ok_is_text_pair F_is_text_pair fr c_is_pair, g_is_text_pair, F_is_text_pair.kp, b_is_text_pair⟩
  have c_is_entry : Cal P w K mg base "is_entry" 2 P_is_entry (sp_is_entry T) := ⟨_, _, ok_is_entry F_is_entry fr c_is_pair c_is_name c_is_whole, g_is_entry, F_is_entry.kp, b_is_entry⟩
  have c_bad_home : Cal P w K mg base "bad_home" 3 P_bad_home (sp_bad_home T) := ⟨_, _, ok_bad_home F_bad_home fr c_is_entry, g_bad_home, F_bad_home.kp, b_bad_home⟩
  have c_bad_road : Cal P w K mg base "bad_road" 3 P_bad_road sp_bad_road := ⟨_, _, ok_bad_road F_bad_road fr c_is_text_pair, g_bad_road, F_bad_road.kp, b_bad_road⟩
  have c_town_wrong : Cal P w K mg base "town_wrong" 4 P_town_wrong (sp_town_wrong T) := ⟨_, _, ok_town_wrong F_town_wrong fr c_is_pair c_bad_home c_bad_road, g_town_wrong, F_town_wrong.kp, b_town_wrong⟩
  have c_check_town : Cal P w K mg base "check_town" 5 P_check_town (sp_check_town T CT) := ⟨_, _, ok_check_town F_check_town fr c_town_wrong xT, g_check_town, F_check_town.kp, b_check_town⟩
  have c_standing_wrong : Cal P w K mg base "standing_wrong" 6 P_standing_wrong (sp_standing_wrong T CT) := ⟨_, _, ok_standing_wrong F_standing_wrong fr c_check_town c_is_entry, g_standing_wrong, F_standing_wrong.kp, b_standing_wrong⟩
  have c_check_standing : Cal P w K mg base "check_standing" 7 P_check_standing (sp_check_standing T CT CS) := ⟨_, _, ok_check_standing F_check_standing fr c_standing_wrong xS, g_check_standing, F_check_standing.kp, b_check_standing⟩
  have c_wealth_by_hand : Cal P w K mg base "wealth_by_hand" 1 P_wealth_by_hand sp_wealth_by_hand := ⟨_, _, ok_wealth_by_hand F_wealth_by_hand fr, g_wealth_by_hand, F_wealth_by_hand.kp, b_wealth_by_hand⟩
  have c_hands_at : Cal P w K mg base "hands_at" 1 P_hands_at sp_hands_at := ⟨_, _, ok_hands_at F_hands_at fr, g_hands_at, F_hands_at.kp, b_hands_at⟩
  have c_wealths : Cal P w K mg base "wealths" 8 P_wealths (sp_wealths T CT CS) := ⟨_, _, ok_wealths2 F_wealths fr c_check_standing c_wealth_by_hand, g_wealths, F_wealths.kp, b_wealths⟩
  have c_stands_of : Cal P w K mg base "stands_of" 8 P_stands_of (sp_stands_of T CT CS) := ⟨_, _, ok_stands_of2 F_stands_of fr c_check_standing c_hands_at, g_stands_of, F_stands_of.kp, b_stands_of⟩
  have c_road_ends : Cal P w K mg base "road_ends" 1 P_road_ends sp_road_ends := ⟨_, _, ok_road_ends F_road_ends fr, g_road_ends, F_road_ends.kp, b_road_ends⟩
  have c_shortage : Cal P w K mg base "shortage" 1 P_shortage sp_shortage := ⟨_, _, ok_shortage F_shortage fr, g_shortage, F_shortage.kp, b_shortage⟩
  have c_moved : Cal P w K mg base "moved" 1 P_moved sp_moved := ⟨_, _, ok_moved F_moved fr, g_moved, F_moved.kp, b_moved⟩
  have c_exchange : Cal P w K mg base "exchange" 2 P_exchange sp_exchange := ⟨_, _, ok_exchange F_exchange fr c_moved, g_exchange, F_exchange.kp, b_exchange⟩
  have c_stuck : Cal P w K mg base "stuck" 3 P_stuck sp_stuck := ⟨_, _, ok_stuck F_stuck fr c_is_text_pair c_road_ends c_shortage c_exchange, g_stuck, F_stuck.kp, b_stuck⟩
  have c_gone : Cal P w K mg base "gone" 8 P_gone (sp_gone T CR CO CH) := ⟨_, _, ok_gone F_gone fr c_check_standing c_is_text_pair c_stuck c_road_ends c_shortage xR xO xH, g_gone, F_gone.kp, b_gone⟩
  have c_exchanged : Cal P w K mg base "exchanged" 9 P_exchanged (sp_exchanged T CO CH) := ⟨_, _, ok_exchanged F_exchanged fr c_gone, g_exchanged, F_exchanged.kp, b_exchanged⟩
  have c_may : Cal P w K mg base "may" 8 P_may (sp_may T CT CS) := ⟨_, _, ok_may2 F_may fr c_check_standing c_road_ends c_shortage, g_may, F_may.kp, b_may⟩
  have c_law_at : Cal P w K mg base "_law_at" 1 P_law_at (sp_law_at K) := ⟨_, _, ok_law_at F_law_at fr, g_law_at, F_law_at.kp, b_law_at⟩
  have c_law_mixed : Cal P w K mg base "_law_mixed" 1 P_law_mixed sp_law_mixed := ⟨_, _, ok_law_mixed F_law_mixed fr, g_law_mixed, F_law_mixed.kp, b_law_mixed⟩
  have c_law_purse : Cal P w K mg base "_law_purse" 2 P_law_purse (sp_law_purse K) := ⟨_, _, ok_law_purse F_law_purse fr c_law_at, g_law_purse, F_law_purse.kp, b_law_purse⟩
  have c_law_draw : Cal P w K mg base "_law_draw" 2 P_law_draw sp_law_draw := ⟨_, _, ok_law_draw F_law_draw fr c_law_mixed, g_law_draw, F_law_draw.kp, b_law_draw⟩
  have c_law_words : Cal P w K mg base "_law_words" 3 P_law_words sp_law_words := ⟨_, _, ok_law_words F_law_words fr c_law_draw, g_law_words, F_law_words.kp, b_law_words⟩
  have c_law_town : Cal P w K mg base "_law_town" 4 P_law_town sp_law_town := ⟨_, _, ok_law_town F_law_town fr c_law_draw c_law_words, g_law_town, F_law_town.kp, b_law_town⟩
  have c_law_standing : Cal P w K mg base "_law_standing" 4 P_law_standing sp_law_standing := ⟨_, _, ok_law_standing F_law_standing fr c_law_draw c_law_words, g_law_standing, F_law_standing.kp, b_law_standing⟩
  have c_law_wealths : Cal P w K mg base "_law_wealths" 1 P_law_wealths sp_law_wealths := ⟨_, _, ok_law_wealths F_law_wealths fr, g_law_wealths, F_law_wealths.kp, b_law_wealths⟩
  have c_law_stands : Cal P w K mg base "_law_stands" 1 P_law_stands sp_law_stands := ⟨_, _, ok_law_stands F_law_stands fr, g_law_stands, F_law_stands.kp, b_law_stands⟩
  have c_law_placed : Cal P w K mg base "_law_placed" 1 P_law_placed sp_law_placed := ⟨_, _, ok_law_placed F_law_placed fr, g_law_placed, F_law_placed.kp, b_law_placed⟩
  have c_law_short : Cal P w K mg base "_law_short" 1 P_law_short sp_law_short := ⟨_, _, ok_law_short F_law_short fr, g_law_short, F_law_short.kp, b_law_short⟩
  have c_law_is_road : Cal P w K mg base "_law_is_road" 1 P_law_is_road sp_law_is_road := ⟨_, _, ok_law_is_road F_law_is_road fr, g_law_is_road, F_law_is_road.kp, b_law_is_road⟩
  have c_law_swapped : Cal P w K mg base "_law_swapped" 1 P_law_swapped sp_law_swapped := ⟨_, _, ok_law_swapped F_law_swapped fr, g_law_swapped, F_law_swapped.kp, b_law_swapped⟩
  have C : Refusals K (He.ga K "TownError") CO CH CR := ⟨mO, mH, mR, k1, k2, k3, k4, k5, k6, xR.isi⟩
  have c_law_caught : Cal P w K mg base "_law_caught" 10 P_law_caught (sp_law_caught T) := ⟨_, _, ok_law_caught F_law_caught fr g_TownError C xR xO xH c_exchanged c_gone, g_law_caught, F_law_caught.kp, b_law_caught⟩
  have c_law_row_right : Cal P w K mg base "_law_row_right" 11 P_law_row_right (sp_law_row_right T) := ⟨_, _, ok_law_row_right F_law_row_right fr c_law_wealths c_law_is_road c_law_caught c_law_stands c_law_short c_law_placed c_law_swapped c_exchanged c_gone c_wealths, g_law_row_right, F_law_row_right.kp, b_law_row_right⟩
  have c_law_may_right : Cal P w K mg base "_law_may_right" 9 P_law_may_right (sp_law_may_right T) := ⟨_, _, ok_law_may_right F_law_may_right fr c_law_wealths c_law_stands c_law_short c_may c_wealths c_stands_of, g_law_may_right, F_law_may_right.kp, b_law_may_right⟩
  have c_law_odd : Cal P w K mg base "_law_odd" 3 P_law_odd sp_law_odd := ⟨_, _, ok_law_odd F_law_odd fr c_law_draw, g_law_odd, F_law_odd.kp, b_law_odd⟩
  have tg : TG T H := ⟨_, hT, by first | exact True.intro | decide | (simp [TriplesOk]) | (intro x hx; cases hx)⟩
  have bl : BindsTo s fd_law { pos := [.ref a] } (P_law.zip [Value.ref a]) := F_law.bindsA (ps := P_law) (fun _ _ _ _ _ _ us hl => match us, hl with | [_], _ => rfl) s [.ref a] rfl
  exact law_runs (v := .ref a) (u := .ref a) F_law fr ⟨rfl, by decide, by decide⟩ e0 bl (.cons rfl .nil) ⟨a, ns, rfl, hS⟩ tg c_law_purse c_law_town c_law_standing c_law_draw c_law_may_right c_law_row_right c_law_odd c_law_caught
end WR
open PySem PySem.W PySem.Calls PyProof.Rows
set_option maxRecDepth 100000 in
set_option maxHeartbeats 0 in
theorem PySem.Challenge.cw_worthrooms_k05_exchanges_holds : PySem.Challenge.rw_worthrooms_k05_exchanges.Holds := by
  w_on; o_law
  refine HandSHeadRun.head_any (r := OpenLaw.row PySem.Challenge.rw_worthrooms_k05_exchanges) (q := view (OpenLaw.row PySem.Challenge.rw_worthrooms_k05_exchanges).prog [52]) (H := WR.hH) (ob := WR.hob) (M := 4000) (loose := ((["__name__", "TownError", "NoRow", "NoTown", "NoStanding", "Short", "NoRoad", "LETTERS", "SIGNS", "is_whole", "is_name", "is_pair", "is_text_pair", "is_entry", "bad_home"] : List Str) ++ (["bad_road", "town_wrong", "check_town", "standing_wrong", "check_standing", "wealth_by_hand", "hands_at", "wealths", "stands_of", "road_ends", "shortage", "moved", "exchange", "stuck", "exchanged"] : List Str) ++ (["gone", "may", "_law_at", "_law_mixed", "_law_purse", "_law_draw", "_law_words", "_law_town", "_law_standing", "_law_wealths", "_law_stands", "_law_placed", "_law_short", "_law_is_road", "_law_caught"] : List Str) ++ (["_law_swapped", "_law_row_right", "_law_may_right", "_law_odd"] : List Str))) (d := HandSHeadRun.topDef (OpenLaw.row PySem.Challenge.rw_worthrooms_k05_exchanges).prog 52) (kwd := []) WR.hob_eq
    (by kernel_rfl) (fun s => by kernel_rfl) WR.hrun (by kernel_rfl) (by kernel_rfl) (by kernel_rfl) (by rfl) (by first | assumption | decide +kernel) (by decide +kernel) ⟨rfl, rfl, rfl, rfl, rfl, by decide +kernel⟩ ?hw ?hc
  case hw => w_witness2
  case hc =>
    refine Att.attach_callB (l := PySem.Challenge.rw_worthrooms_k05_exchanges) (n := 63) rfl (by kernel_rfl) fun w s₀ s₁ mg mb fa o pm cd doc a vs ns G Y ho hd hcd hmg0 hobj hints hlen hbits hg => ?_
    obtain ⟨K, KX, c⟩ := Y
    have hmg : mg ("law" : PySem.Str) = some (.ref fa) := by
      have e : (HandSHeadRun.topDef (OpenLaw.row PySem.Challenge.rw_worthrooms_k05_exchanges).prog 52).name = ("law" : PySem.Str) := by kernel_rfl
      rw [← e]
      exact hmg0
    have hp : (("is_name", none) : PySem.Str × Option PySem.Str) ∈ WR.htf := List.mem_singleton.mpr rfl
    have efa : fa = He.ga K "law" := by
      have q := hmg.symm.trans (He.glo_ok KX G.T.g (c.t.d.fact 40 (f := .glo "law") rfl))
      cases q; rfl
    subst efa
    exact WR.law_callAt (CX := L2.CX _ w) KX G.T.g G.T.b G.T.builtins G.T.nolimit hg (c.empty _ hp) (c.out _ hp) (codeHd_of_K KX (c.hd _ hp)) G.T.bmain hobj hints (Nat.le_trans hlen (by decide))
      (fun base H hK hb TB e0 hT hS => WR.law_true KX G.T.g c hb TB e0 hT hS) (fun _ _ _ ⟨_, _, _, _, _, _, _, _, _, _, _, _, z⟩ => z)
