import PyProof.Rows.All
import Wide.All
import OpenK.AllK
import Wide.FinOn
import HandS.ForMost
import HandS.IsInst
import HandS.Defaults
import HandS.Wide
import HandS.TupAny
import HandS.ExcInit
import HandS.ExcValue
import HandS.Dict
import HandS.Walk
import HandS.Zip
import PyProof.ReprRoads
import PyProof.Rows.NestShow
import PyProof.FString
import PyProof.FString2
import HandS.ExcIs
import HandS.ExcField
import HandS.MakeKw
import PyProof.ExcBaseAll.LookupError
import PyProof.ExcBaseAll.IndexError
import PyProof.ExcBaseAll.OverflowError
import KE.KExcIs
import HandS.FStr
import HandS.WordsExc
import HandS.Iter
import HandS.ForExc
import PySem.Challenge.RW_waitedmeets_k04_refusals_apart
set_option Elab.async false
set_option linter.all false
set_option maxRecDepth 100000
set_option maxHeartbeats 8000000
namespace Wn
open PySem PySem.Spec PyProof.Rows L2
abbrev D := PyData
abbrev En := List (Option D)
mutual
/-- the value v stands for the datum d in the heap H; an exception or an object is told by a dict with a first key of its own -/
inductive Dt (K : PySem.W.Frag) (H : Hp) : V → D → Prop
  | non : Dt K H .non .none
  | bl (b : Bool) : Dt K H (.bl b) (.bool b)
  | int (i : Int) : Dt K H (.int i) (.int i)
  | str (x : Str) : Dt K H (.str x) (.str x)
  | lst {a : Addr} {vs : List V} {ds : List D} : H a = some (.lst vs) → DtAll K H vs ds → Dt K H (.ref a) (.list ds)
  | tup {a : Addr} {vs : List V} {ds : List D} : SqT K H a vs → DtAll K H vs ds → Dt K H (.ref a) (.tuple ds)
  | dic {a : Addr} {fs : List (Str × V)} {ds : List (D × D)} : H a = some (.dK (fs.map fun p => (Sum.inr p.1, p.2))) → DtF K H fs ds → Dt K H (.ref a) (.dict ds)
  | exz {a C : Addr} {x : Str} : PySem.W.nsIn K mainGlobals x = some (some (.ref C)) → H a = some (ExO (.ref C) a) → Dt K H (.ref a) (.dict [(.none, .str x)])
  | exc {a dx C : Addr} {x : Str} {fs : List (Str × V)} {ds : List (D × D)} : PySem.W.nsIn K mainGlobals x = some (some (.ref C)) → H a = some (exo a C (some dx)) → H dx = some (exd dx fs) → DtF K H fs ds → Dt K H (.ref a) (.dict ((.none, .str x) :: ds))
  | obj {a dx C : Addr} {x : Str} {fs : List (Str × V)} {ds : List (D × D)} : PySem.W.nsIn K mainGlobals x = some (some (.ref C)) → H a = some (.ins C dx fs) → DtF K H fs ds → Dt K H (.ref a) (.dict ((.bool true, .str x) :: ds))
inductive DtAll (K : PySem.W.Frag) (H : Hp) : List V → List D → Prop
  | nil : DtAll K H [] []
  | cons {v : V} {vs : List V} {d : D} {ds : List D} : Dt K H v d → DtAll K H vs ds → DtAll K H (v :: vs) (d :: ds)
/-- names and what stands behind them -/
inductive DtF (K : PySem.W.Frag) (H : Hp) : List (Str × V) → List (D × D) → Prop
  | nil : DtF K H [] []
  | cons {x : Str} {v : V} {fs : List (Str × V)} {d : D} {ds : List (D × D)} : Dt K H v d → DtF K H fs ds → DtF K H ((x, v) :: fs) ((.str x, d) :: ds)
end
theorem Dt.nod {K : PySem.W.Frag} {H : Hp} {a : Addr} (h : H a = some (.dK [])) : Dt K H (.ref a) (.dict []) := .dic (fs := []) h .nil
theorem seqT {K : PySem.W.Frag} {H H' : Hp} {a : Addr} {xs : List V} (e : Same H H') (h : SqT K H a xs) : SqT K H' a xs := by
  rcases h with (now | ⟨ob, shut⟩) | top
  · exact Or.inl (Or.inl (e _ _ now))
  · exact Or.inl (Or.inr ⟨ob, e _ _ shut⟩)
  · exact Or.inr top
section
variable {K : PySem.W.Frag} {H H' : Hp}
/-- by the derivation: what is asked of the heap at each address -/
theorem Dt.walk (eL : ∀ a vs ds, H a = some (.lst vs) → DtAll K H vs ds → H' a = some (.lst vs)) (eT : ∀ a vs, SqT K H a vs → SqT K H' a vs) (eX : ∀ a o, (∀ vs, o ≠ .lst vs) → H a = some o → H' a = some o) {v : V} {d : D} (h : Dt K H v d) : Dt K H' v d := by
  refine Dt.rec (motive_1 := fun v d _ => Dt K H' v d) (motive_2 := fun vs ds _ => DtAll K H' vs ds) (motive_3 := fun fs ds _ => DtF K H' fs ds) ?_ ?_ ?_ ?_ ?_ ?_ ?_ ?_ ?_ ?_ ?_ ?_ ?_ ?_ h
  · exact .non
  · exact fun b => .bl b
  · exact fun i => .int i
  · exact fun x => .str x
  · exact fun s all ih => .lst (eL _ _ _ s all) ih
  · exact fun s all ih => .tup (eT _ _ s) ih
  · exact fun s all ih => .dic (eX _ _ (fun _ z => by cases z) s) ih
  · exact fun n s => .exz n (eX _ _ (fun _ z => by cases (show HO.ext _ = HO.lst _ from z)) s)
  · exact fun n s t all ih => .exc n (eX _ _ (fun _ z => by cases (show HO.ext _ = HO.lst _ from z)) s) (eX _ _ (fun _ z => by cases (show HO.ext _ = HO.lst _ from z)) t) ih
  · exact fun n s all ih => .obj n (eX _ _ (fun _ z => by cases z) s) ih
  · exact .nil
  · exact fun a r h1 h2 => .cons h1 h2
  · exact .nil
  · exact fun a r h1 h2 => .cons h1 h2
theorem Dt.on {v : V} {d : D} (h : Dt K H v d) (e : Same H H') : Dt K H' v d := h.walk (fun _ _ _ s _ => e _ _ s) (fun _ _ s => seqT e s) (fun _ _ _ s => e _ _ s)
theorem DtAll.each (e : ∀ v d, Dt K H v d → Dt K H' v d) : ∀ {vs : List V} {ds : List D}, DtAll K H vs ds → DtAll K H' vs ds
  | _, [], h => by cases h; exact .nil
  | _, _ :: _, h => by
    cases h with
    | cons a r => exact .cons (e _ _ a) (r.each e)
theorem DtF.each (e : ∀ v d, Dt K H v d → Dt K H' v d) : ∀ {vs : List (Str × V)} {ds : List (D × D)}, DtF K H vs ds → DtF K H' vs ds
  | [], _, h => by cases h; exact .nil
  | _ :: _, _, h => by
    cases h with
    | cons a r => exact .cons (e _ _ a) (r.each e)
theorem DtAll.on {v : List V} {d : List D} (h : DtAll K H v d) (e : Same H H') : DtAll K H' v d := h.each fun _ _ x => x.on e
theorem DtF.on {v : List (Str × V)} {d : List (D × D)} (h : DtF K H v d) (e : Same H H') : DtF K H' v d := h.each fun _ _ x => x.on e
theorem DtAll.len : ∀ {vs : List V} {ds : List D}, DtAll K H vs ds → vs.length = ds.length
  | _, [], h => by cases h; rfl
  | _, _ :: _, h => by
    cases h with
    | cons a r => exact congrArg (· + 1) r.len
theorem DtAll.at : ∀ {vs : List V} {ds : List D} {i : Nat} {d : D}, DtAll K H vs ds → ds[i]? = some d → ∃ v, vs[i]? = some v ∧ Dt K H v d
  | _, [], _, _, _, no => by simp at no
  | _, _ :: _, 0, _, h, e => by
    cases h with
    | cons a r => simp at e; subst e; exact ⟨_, rfl, a⟩
  | _, _ :: _, i + 1, _, h, e => by
    cases h with
    | cons a r =>
      obtain ⟨v, q, z⟩ := r.at (i := i) (by simpa using e)
      exact ⟨v, by simpa using q, z⟩
theorem DtAll.app : ∀ {vs ws : List V} {ds es : List D}, DtAll K H vs ds → DtAll K H ws es → DtAll K H (vs ++ ws) (ds ++ es)
  | _, _, [], _, h, q => by cases h; exact q
  | _, _, _ :: _, _, h, q => by
    cases h with
    | cons a r => exact .cons a (r.app q)
theorem DtAll.take : ∀ {vs : List V} {ds : List D} (n : Nat), DtAll K H vs ds → DtAll K H (vs.take n) (ds.take n)
  | _, _, 0, _ => .nil
  | _, [], n + 1, h => by cases h; exact .nil
  | _, _ :: _, n + 1, h => by
    cases h with
    | cons a r => exact .cons a (r.take n)
theorem DtAll.drop : ∀ {vs : List V} {ds : List D} (n : Nat), DtAll K H vs ds → DtAll K H (vs.drop n) (ds.drop n)
  | _, _, 0, h => h
  | _, [], n + 1, h => by cases h; exact .nil
  | _, _ :: _, n + 1, h => by
    cases h with
    | cons a r => exact r.drop n
theorem DtAll.bls : ∀ {vs : List V} {bs : List Bool}, DtAll K H vs (bs.map PyData.bool) → vs = bs.map V.bl
  | _, [], h => by cases h; rfl
  | _, b :: bs, h => by
    cases h with
    | cons a r => cases a; rw [r.bls]; rfl
end
/-- the modules' own dict is known, and shut -/
def Sy (H : Hp) : Prop := ∃ o u, H sysModules = some (.frz o u)
theorem Sy.on {H H' : Hp} (h : Sy H) (e : Same H H') : Sy H' := let ⟨o, u, q⟩ := h; ⟨o, u, e _ _ q⟩
/-- data without exceptions and objects -/
def keyS : D → Bool
  | .str _ => true
  | _ => false
mutual
def plain : D → Bool
  | .list ds => plainAll ds
  | .tuple ds => plainAll ds
  | .dict ds => plainKv ds
  | .none => true
  | .bool _ => true
  | .int _ => true
  | .str _ => true
def plainAll : List D → Bool
  | [] => true
  | d :: r => plain d && plainAll r
def plainKv : List (D × D) → Bool
  | [] => true
  | (k, d) :: r => keyS k && (plain d && plainKv r)
end
section
variable {X : Cx} {σ : L2.St} {H : Hp} {pins : List (Addr × Obj)} {s : Shared}
/-- the entries of a dict with text keys: their keys are read, and their worths are the values -/
theorem kv_look {P : Program} {w : World} {h : Heap} : ∀ {fs : List (Str × V)} {rs : List (Key × Value)} {es : List DictEntry}, KV (fs.map fun p => ((Sum.inr p.1 : Key), p.2)) rs → Pairs (mixKind P w) es rs → (∃ as, ReadsAll h (es.map (·.key)) (fs.map fun p => .str p.1) as ∧ sysModules ∉ as) ∧ Vals (fs.map (·.2)) (es.map (·.val))
  | [], _, _, k, p => by
    cases k
    cases p
    exact ⟨⟨_, ReadsAll.nil, by simp⟩, .nil⟩
  | f :: fs, _, _, k, p => by
    cases k with
    | @cons _ kv _ rs k1 k2 =>
      cases p with
      | cons p1 pv p2 =>
        rename_i e es
        obtain ⟨⟨as, r, n⟩, v⟩ := kv_look (h := h) k2 p2
        obtain ⟨k, u⟩ := kv
        obtain ⟨ek, ru⟩ := k1
        have ek : Sum.inr f.1 = k := ek
        subst ek
        have p1 : keyIs (Sum.inr f.1) e.key = true := p1
        rcases keyIs_shape p1 with ⟨i, t, z, _⟩ | ⟨x, t, z, ee⟩
        · cases z
        · cases z
          have er : Reads h e.key (.str f.1) [] := by
            rw [ee]
            exact Reads.str _ _
          refine ⟨⟨_, ReadsAll.cons er r, by simpa using n⟩, .cons ?_ v⟩
          show L2.RelV f.2 e.val
          rw [pv]
          exact ru
theorem Dt.reads (I : Inv X pins σ H s) {v : V} {d : D} (h : Dt X.K H v d) : ∀ u : Value, RelV v u → plain d = true → ∃ as, Reads s.heap u d as ∧ (Sy H → sysModules ∉ as) := by
  refine Dt.rec (motive_1 := fun v d _ => ∀ u : Value, RelV v u → plain d = true → ∃ as, Reads s.heap u d as ∧ (Sy H → sysModules ∉ as)) (motive_2 := fun vs ds _ => ∀ us : List Value, Vals vs us → plainAll ds = true → ∃ as, ReadsAll s.heap us ds as ∧ (Sy H → sysModules ∉ as))
    (motive_3 := fun fs ds _ => plainKv ds = true → ∀ us : List Value, Vals (fs.map (·.2)) us → (∃ as, ReadsAll s.heap us (ds.map (·.2)) as ∧ (Sy H → sysModules ∉ as)) ∧ ds.map (·.1) = fs.map fun p => .str p.1) ?_ ?_ ?_ ?_ ?_ ?_ ?_ ?_ ?_ ?_ ?_ ?_ ?_ ?_ h
  · intro u r _
    cases r
    exact ⟨_, Reads.none, fun _ => by simp⟩
  · intro b u r _
    cases r
    exact ⟨_, Reads.bool b, fun _ => by simp⟩
  · intro i u r _
    obtain ⟨t, rfl⟩ := r
    exact ⟨_, Reads.int i t, fun _ => by simp⟩
  · intro x u r _
    obtain ⟨t, rfl⟩ := r
    exact ⟨_, Reads.str x t, fun _ => by simp⟩
  · intro a vs ds hs _ ih u r p
    cases r
    obtain ⟨us, rv, ⟨ob, n, h1, h2, _, h3⟩, _⟩ := I.list (SqL.of hs)
    obtain ⟨as, h4, h5⟩ := ih us rv p
    refine ⟨_, Reads.list h1 h2 h3 h4, ?_⟩
    intro sy m
    rcases List.mem_cons.mp m with e | e
    · obtain ⟨o, w, q⟩ := sy
      rw [e, hs] at q
      cases q
    · exact h5 sy e
  · intro a vs ds hs _ ih u r p
    cases r
    obtain ⟨us, rv, ⟨ob, h1, h2, n, h3⟩, _⟩ := I.tuple hs
    obtain ⟨as, h4, h5⟩ := ih us rv p
    exact ⟨_, Reads.tuple h1 h2 h3 h4, h5⟩
  · intro a fs ds hs _ ih u r p
    cases r
    obtain ⟨_, hm, vs, kv, o, es, ep, ho, ex, hd, _, he, _⟩ := I.hok a _ hs
    obtain ⟨⟨as, r1, n1⟩, rv⟩ := kv_look (h := s.heap) kv he
    obtain ⟨⟨bs, r2, n2⟩, ek⟩ := ih p _ rv
    refine ⟨a :: as ++ bs, Reads.dict ho ex.1 hd (by rw [ek]; exact r1) r2, ?_⟩
    intro sy m
    rcases List.mem_append.mp m with m | m
    · rcases List.mem_cons.mp m with e | e
      · rw [← e] at hm
        simp at hm
      · exact n1 e
    · exact n2 sy m
  · intro a C x _ _ u _ p
    cases p
  · intro a dx C x fs ds _ _ _ _ _ u _ p
    cases p
  · intro a dx C x fs ds _ _ _ _ u _ p
    cases p
  · intro us r _
    cases r
    exact ⟨_, ReadsAll.nil, fun _ => by simp⟩
  · intro v vs d ds _ _ h1 h2 us r p
    obtain ⟨p1, p2⟩ := Bool.and_eq_true_iff.mp (show (plain d && plainAll ds) = true from p)
    cases r with
    | cons r1 r2 =>
      obtain ⟨as, a1, a2⟩ := h1 _ r1 p1
      obtain ⟨bs, b1, b2⟩ := h2 _ r2 p2
      exact ⟨_, ReadsAll.cons a1 b1, fun sy m => (List.mem_append.mp m).elim (a2 sy) (b2 sy)⟩
  · intro _ us r
    cases r
    exact ⟨⟨_, ReadsAll.nil, fun _ => by simp⟩, rfl⟩
  · intro x v fs d ds _ _ h1 h2 p us r
    obtain ⟨p1, p2⟩ := Bool.and_eq_true_iff.mp (show (plain d && plainKv ds) = true from p)
    cases r with
    | cons r1 r2 =>
      obtain ⟨as, a1, a2⟩ := h1 _ r1 p1
      obtain ⟨⟨bs, b1, b2⟩, e⟩ := h2 p2 _ r2
      exact ⟨⟨_, ReadsAll.cons a1 b1, fun sy m => (List.mem_append.mp m).elim (a2 sy) (b2 sy)⟩, by rw [List.map_cons, List.map_cons, e]⟩
end

/-! ### the readings of pure code -/
structure Er (K : PySem.W.Frag) (H : Hp) (σ : L2.St) (δ : En) : Prop where
  len : σ.length = δ.length
  val : ∀ (i : Nat) (d : D), δ[i]? = some (some d) → ∃ v, σ[i]? = some (some v) ∧ Dt K H v d
  sy : Sy H
theorem Er.on {K : PySem.W.Frag} {H H' : Hp} {σ : L2.St} {δ : En} (h : Er K H σ δ) (e : Same H H') : Er K H' σ δ := ⟨h.len, fun i d q => let ⟨v, a, b⟩ := h.val i d q; ⟨v, a, b.on e⟩, h.sy.on e⟩
theorem Er.set {K : PySem.W.Frag} {H : Hp} {σ : L2.St} {δ : En} {v : V} {d : D} (h : Er K H σ δ) (i : Nat) (q : Dt K H v d) : Er K H (σ.set i (some v)) (δ.set i (some d)) := by
  refine ⟨by simpa using h.len, fun j e z => ?_, h.sy⟩
  by_cases hj : j = i
  · subst hj
    by_cases hl : j < δ.length
    · rw [List.getElem?_set_self hl] at z
      cases z
      exact ⟨v, List.getElem?_set_self (by rw [h.len]; exact hl), q⟩
    · rw [List.getElem?_eq_none (by simpa using hl)] at z
      cases z
  · rw [List.getElem?_set_ne (Ne.symm hj)] at z
    obtain ⟨u, a, b⟩ := h.val j e z
    exact ⟨u, by rw [List.getElem?_set_ne (Ne.symm hj)]; exact a, b⟩
/-- what is wanted of a value that stands for d, all that was tracked being kept -/
def Gives (K : PySem.W.Frag) (H : Hp) (d : D) (Q : VK) : Prop := ∀ v H', Same H H' → Dt K H' v d → Q v H'
theorem Gives.on {K : PySem.W.Frag} {H H' : Hp} {d : D} {Q : VK} (h : Gives K H d Q) (e : Same H H') : Gives K H' d Q := fun v H2 s q => h v H2 (e.trans s) q
theorem Gives.now {K : PySem.W.Frag} {H : Hp} {d : D} {Q : VK} {v : V} (h : Gives K H d Q) (q : Dt K H v d) : Q v H := h v H (Same.refl H) q
theorem same_new {H : Hp} {p : Addr} {o : HO} (h : H p = none) : Same H (upd H p o) := fun b x e => by
  rw [upd_ne (ne_of_none e h)]
  exact e
def tP (K : PySem.W.Frag) (g : En → Option D) : TE := fun σ H Q => ∃ δ d, Er K H σ δ ∧ g δ = some d ∧ Gives K H d Q
def tQ (K : PySem.W.Frag) (g : En → Option Bool) : TT := fun σ H Q => ∃ δ b, Er K H σ δ ∧ g δ = some b ∧ ∀ H', Same H H' → Q b H'
def tL (K : PySem.W.Frag) (g : En → Option (List D)) : TA := fun σ H Q => ∃ δ ds, Er K H σ δ ∧ g δ = some ds ∧ ∀ vs H', Same H H' → DtAll K H' vs ds → Q vs H'
inductive Out where
  | nx (δ : En)
  | rt (d : D)
/-- z: what the first slot holds; it is never stored -/
def Out.wish (K : PySem.W.Frag) (H : Hp) (E : Ends) (z : Option (Option V)) : Out → Prop
  | .nx δ => ∀ σ' H', Same H H' → Er K H' σ' δ → σ'[0]? = z → E.nx σ' H'
  | .rt d => Gives K H d E.rt
theorem wish_on {K : PySem.W.Frag} {H H' : Hp} {E : Ends} {z : Option (Option V)} {o : Out} (h : o.wish K H E z) (e : Same H H') : o.wish K H' E z := by
  cases o with
  | nx δ => exact fun σ2 H2 s2 e2 => h σ2 H2 (e.trans s2) e2
  | rt d => exact Gives.on h e
def tS (K : PySem.W.Frag) (g : En → Option Out) : TS := fun E σ H => ∃ δ o, Er K H σ δ ∧ g δ = some o ∧ o.wish K H E σ[0]?
def r1 (K : PySem.W.Frag) (g : D → Option D) : V → Hp → VK → Prop := fun x H Q => ∃ a d, Dt K H x a ∧ g a = some d ∧ Gives K H d Q
def r2 (K : PySem.W.Frag) (g : D → D → Option D) : R2 := fun x y H Q => ∃ a b d, Dt K H x a ∧ Dt K H y b ∧ g a b = some d ∧ Gives K H d Q
def rC (K : PySem.W.Frag) (g : List D → Option D) : List V → Hp → VK → Prop := fun xs H Q => Sy H ∧ ∃ as d, DtAll K H xs as ∧ g as = some d ∧ Gives K H d Q
/-- a def's promise -/
def spP (K : PySem.W.Frag) (n : Nat) (g : List D → Option D) : Sp := fun vs H Q _ => Sy H ∧ ∃ ds d, DtAll K H vs ds ∧ ds.length = n ∧ g ds = some d ∧ Gives K H d Q
theorem bnd {α β : Type} {x : Option α} {f : α → Option β} {z : β} (h : x.bind f = some z) : ∃ y, x = some y ∧ f y = some z := by
  cases x with
  | none => cases h
  | some y => exact ⟨y, rfl, h⟩
def asB : D → Option Bool
  | .bool b => some b
  | _ => none
theorem asB_some {d : D} {b : Bool} (h : asB d = some b) : d = .bool b := by
  cases d <;> first | cases h; rfl | cases h
section
variable {X : Cx} {e a b c : Expr} {es : List Expr} {pos : Pos} {ga gb gc : En → Option D}
theorem imp {t t' : TE} (h : PE X e t) (w : ∀ σ H Q, t' σ H Q → t σ H Q) : PE X e t' := ⟨fun pins s σ H Q I q => h.run pins s σ H Q I (w σ H Q q)⟩
theorem impT {t t' : TT} (h : PT X e t) (w : ∀ σ H Q, t' σ H Q → t σ H Q) : PT X e t' := ⟨fun pins s σ H Q I q => h.run pins s σ H Q I (w σ H Q q)⟩
theorem impW {t t' : TT} (h : PW X e t) (w : ∀ σ H Q, t' σ H Q → t σ H Q) : PW X e t' := ⟨fun wh pins s σ H Q I q => h.run wh pins s σ H Q I (w σ H Q q)⟩
theorem impA {t t' : TA} (h : PA X es t) (w : ∀ σ H Q, t' σ H Q → t σ H Q) : PA X es t' := ⟨fun p pins s σ H Q I q => h.run p pins s σ H Q I (w σ H Q q)⟩
theorem impK {kws : List Keyword} {t t' : TA} (h : PK X kws t) (w : ∀ σ H Q, t' σ H Q → t σ H Q) : PK X kws t' := ⟨fun p pins s σ H Q I q => h.run p pins s σ H Q I (w σ H Q q)⟩
theorem impS {st : Stmt} {t t' : TS} (h : PS X st t) (w : ∀ E σ H, t' E σ H → t E σ H) : PS X st t' := ⟨fun pins s σ H E I q => h.run pins s σ H E I (w E σ H q)⟩
theorem impSs {st : List Stmt} {t t' : TS} (h : PSs X st t) (w : ∀ E σ H, t' E σ H → t E σ H) : PSs X st t' := ⟨fun pins s σ H E I q => h.run pins s σ H E I (w E σ H q)⟩
theorem impO {f : Value → Value → Sem Value} {r r' : R2} (h : OpR X f r) (w : ∀ x y H Q, r' x y H Q → r x y H Q) : OpR X f r' := fun pins s σ H x y v u Q I rx ry q => h pins s σ H x y v u Q I rx ry (w _ _ _ _ q)
theorem impU {f : Value → Sem Value} {r r' : V → Hp → VK → Prop} (h : UnR X f r) (w : ∀ x H Q, r' x H Q → r x H Q) : UnR X f r' := fun pins s σ H x v Q I rx q => h pins s σ H x v Q I rx (w _ _ _ q)
theorem impC {f : Value} {r r' : List V → Hp → VK → Prop} (h : CallR X f r) (w : ∀ x H Q, r' x H Q → r x H Q) : CallR X f r' := fun pins s σ H x v Q I rx q => h pins s σ H x v Q I rx (w _ _ _ q)

theorem p_var {i : Nat} (h : PE X e (tVar i)) : PE X e (tP X.K fun δ => (δ[i]?).join) := imp h fun σ H Q ⟨δ, d, er, g, q⟩ => by
  have g : (δ[i]?).join = some d := g
  have e1 : δ[i]? = some (some d) := by
    cases z : δ[i]? with
    | none => rw [z] at g; cases g
    | some o => rw [z] at g; exact congrArg some g
  obtain ⟨v, a, b⟩ := er.val i d e1
  exact ⟨v, a, q.now b⟩
theorem p_c {v : V} {d : D} (h : PE X e (tC v)) (r : ∀ H, Dt X.K H v d) : PE X e (tP X.K fun _ => some d) := imp h fun σ H Q ⟨δ, d', er, g, q⟩ => by
  cases g
  exact q.now (r H)
theorem p_op {op : Operator} {g : D → D → Option D} (ho : OpR X (binaryOp op) (r2 X.K g)) (ha : PE X a (tP X.K ga)) (hb : PE X b (tP X.K gb)) : PE X (.BinOp a op b pos) (tP X.K fun δ => (ga δ).bind fun x => (gb δ).bind fun y => g x y) :=
  imp (pe_op ho ha hb) fun σ H Q ⟨δ, d, er, z, q⟩ => by
    obtain ⟨d1, e1, z⟩ := bnd z
    obtain ⟨d2, e2, z⟩ := bnd z
    exact ⟨δ, d1, er, e1, fun x H1 s1 dx => ⟨δ, d2, er.on s1, e2, fun y H2 s2 dy => ⟨d1, d2, d, dx.on s2, dy, z, q.on (s1.trans s2)⟩⟩⟩
theorem p_un {op : UnaryOp} {g : D → Option D} (ho : UnR X (unaryOp op) (r1 X.K g)) (ha : PE X a (tP X.K ga)) : PE X (.UnaryOp op a pos) (tP X.K fun δ => (ga δ).bind g) :=
  imp (pe_un ho ha) fun σ H Q ⟨δ, d, er, z, q⟩ => by
    obtain ⟨d1, e1, z⟩ := bnd z
    exact ⟨δ, d1, er, e1, fun x H1 s1 dx => ⟨d1, d, dx, z, q.on s1⟩⟩
theorem p_cmp {op : CmpOp} {g : D → D → Option D} (ho : OpR X (compareOp op) (r2 X.K g)) (ha : PE X a (tP X.K ga)) (hb : PE X b (tP X.K gb)) (hm : behindInMarks op b = false) : PE X (.Compare a [op] [b] pos) (tP X.K fun δ => (ga δ).bind fun x => (gb δ).bind fun y => g x y) :=
  imp (pe_cmpR ho ha hb hm) fun σ H Q ⟨δ, d, er, z, q⟩ => by
    obtain ⟨d1, e1, z⟩ := bnd z
    obtain ⟨d2, e2, z⟩ := bnd z
    exact ⟨δ, d1, er, e1, fun x H1 s1 dx => ⟨δ, d2, er.on s1, e2, fun y H2 s2 dy => ⟨d1, d2, d, dx.on s2, dy, z, q.on (s1.trans s2)⟩⟩⟩
/-- a value as a test -/
theorem give_bl {K : PySem.W.Frag} {H : Hp} {b : Bool} {Q : Bool → Hp → Prop} (q : ∀ H', Same H H' → Q b H') : Gives K H (.bool b) fun x H1 => ∃ c, x = .bl c ∧ Q c H1 := fun v H1 s1 dv => by
  cases dv
  exact ⟨b, rfl, q H1 s1⟩
theorem q_cmp {op : CmpOp} {g : D → D → Option D} (ho : OpR X (compareOp op) (r2 X.K g)) (ha : PE X a (tP X.K ga)) (hb : PE X b (tP X.K gb)) (hm : behindInMarks op b = false) : PT X (.Compare a [op] [b] pos) (tQ X.K fun δ => (ga δ).bind fun x => (gb δ).bind fun y => (g x y).bind asB) :=
  impT (pt_cmpR ho ha hb hm) fun σ H Q ⟨δ, d, er, z, q⟩ => by
    obtain ⟨d1, e1, z⟩ := bnd z
    obtain ⟨d2, e2, z⟩ := bnd z
    obtain ⟨d3, e3, z⟩ := bnd z
    cases asB_some z
    exact ⟨δ, d1, er, e1, fun x H1 s1 dx => ⟨δ, d2, er.on s1, e2, fun y H2 s2 dy => ⟨d1, d2, _, dx.on s2, dy, e3, (give_bl q).on (s1.trans s2)⟩⟩⟩
theorem q_val (h : PE X e (tP X.K ga)) (he : ∀ whole, isTrue e X.env whole = (do let v ← whole; standAt e.pos; holding [v] (truthy v)) := by intro _; rfl) : PT X e (tQ X.K fun δ => (ga δ).bind asB) :=
  impT (pt_val h he) fun σ H Q ⟨δ, d, er, z, q⟩ => by
    obtain ⟨d1, e1, z⟩ := bnd z
    cases asB_some z
    exact ⟨δ, _, er, e1, give_bl q⟩
/-- a op b op' c -/
def chn (g g' : D → D → Option D) (ga gb gc : En → Option D) : En → Option D := fun δ => (ga δ).bind fun x => (gb δ).bind fun y => (g x y).bind fun z => (asB z).bind fun k => if k then (gc δ).bind fun w => g' y w else some (.bool false)
theorem p_chain {op op' : CmpOp} {g g' : D → D → Option D} (ho : OpR X (compareOp op) (r2 X.K g)) (ho' : OpR X (compareOp op') (r2 X.K g')) (ha : PE X a (tP X.K ga)) (hb : PE X b (tP X.K gb)) (hc : PE X c (tP X.K gc))
    (hm : lastMarks [op, op'] [b, c] = false := by with_unfolding_all rfl) : PE X (.Compare a [op, op'] [b, c] pos) (tP X.K (chn g g' ga gb gc)) :=
  imp (pe_chain ho ho' ha hb hc hm) fun σ H Q ⟨δ, d, er, z, q⟩ => by
    obtain ⟨d1, e1, z⟩ := bnd z
    obtain ⟨d2, e2, z⟩ := bnd z
    obtain ⟨d3, e3, z⟩ := bnd z
    obtain ⟨k, e4, z⟩ := bnd z
    cases asB_some e4
    refine ⟨δ, d1, er, e1, fun x H1 s1 dx => ⟨δ, d2, er.on s1, e2, fun y H2 s2 dy => ⟨d1, d2, _, dx.on s2, dy, e3, fun w H3 s3 dw => ?_⟩⟩⟩
    cases dw
    refine ⟨k, rfl, ?_⟩
    cases k with
    | true =>
      have z : ((gc δ).bind fun w => g' d2 w) = _ := z
      obtain ⟨d5, e5, z⟩ := bnd z
      exact iteT ⟨δ, d5, er.on (s1.trans (s2.trans s3)), e5, fun w' H4 s4 dw' => ⟨d2, d5, d, dy.on (s3.trans s4), dw', z, q.on (s1.trans (s2.trans (s3.trans s4)))⟩⟩
    | false =>
      cases z
      exact iteF (q _ _ (s1.trans (s2.trans s3)) (.bl false))
theorem q_chain {op op' : CmpOp} {g g' : D → D → Option D} (ho : OpR X (compareOp op) (r2 X.K g)) (ho' : OpR X (compareOp op') (r2 X.K g')) (ha : PE X a (tP X.K ga)) (hb : PE X b (tP X.K gb)) (hc : PE X c (tP X.K gc))
    (hm : lastMarks [op, op'] [b, c] = false := by with_unfolding_all rfl) : PT X (.Compare a [op, op'] [b, c] pos) (tQ X.K fun δ => (chn g g' ga gb gc δ).bind asB) :=
  impT (pt_chain ho ho' ha hb hc hm) fun σ H Q ⟨δ, d, er, z, q⟩ => by
    obtain ⟨d0, z, zz⟩ := bnd z
    cases asB_some zz
    obtain ⟨d1, e1, z⟩ := bnd z
    obtain ⟨d2, e2, z⟩ := bnd z
    obtain ⟨d3, e3, z⟩ := bnd z
    obtain ⟨k, e4, z⟩ := bnd z
    cases asB_some e4
    refine ⟨δ, d1, er, e1, fun x H1 s1 dx => ⟨δ, d2, er.on s1, e2, fun y H2 s2 dy => ⟨d1, d2, _, dx.on s2, dy, e3, fun w H3 s3 dw => ?_⟩⟩⟩
    cases dw
    refine ⟨k, rfl, ?_⟩
    cases k with
    | true =>
      have z : ((gc δ).bind fun w => g' d2 w) = _ := z
      obtain ⟨d5, e5, z⟩ := bnd z
      exact iteT ⟨δ, d5, er.on (s1.trans (s2.trans s3)), e5, fun w' H4 s4 dw' => ⟨d2, d5, _, dy.on (s3.trans s4), dw', z, (give_bl q).on (s1.trans (s2.trans (s3.trans s4)))⟩⟩
    | false =>
      cases z
      exact iteF ⟨false, rfl, q _ (s1.trans (s2.trans s3))⟩
/-! and, or, not -/
variable {rest : List Expr}
def andV (ga gb : En → Option D) : En → Option D := fun δ => (ga δ).bind fun x => (asB x).bind fun k => if k then gb δ else some (.bool false)
def orV (ga gb : En → Option D) : En → Option D := fun δ => (ga δ).bind fun x => (asB x).bind fun k => if k then some (.bool true) else gb δ
theorem p_and (ha : PE X a (tP X.K ga)) (hb : PE X (.BoolOp .And (b :: rest) pos) (tP X.K gb)) : PE X (.BoolOp .And (a :: b :: rest) pos) (tP X.K (andV ga gb)) :=
  imp (pe_and ha hb) fun σ H Q ⟨δ, d, er, z, q⟩ => by
    obtain ⟨d1, e1, z⟩ := bnd z
    obtain ⟨k, e2, z⟩ := bnd z
    cases asB_some e2
    refine ⟨δ, _, er, e1, fun x H1 s1 dx => ?_⟩
    cases dx
    refine ⟨k, rfl, ?_⟩
    cases k with
    | true => exact iteT ⟨δ, d, er.on s1, z, q.on s1⟩
    | false => cases z; exact iteF (q _ _ s1 (.bl false))
theorem p_or (ha : PE X a (tP X.K ga)) (hb : PE X (.BoolOp .Or (b :: rest) pos) (tP X.K gb)) : PE X (.BoolOp .Or (a :: b :: rest) pos) (tP X.K (orV ga gb)) :=
  imp (pe_or ha hb) fun σ H Q ⟨δ, d, er, z, q⟩ => by
    obtain ⟨d1, e1, z⟩ := bnd z
    obtain ⟨k, e2, z⟩ := bnd z
    cases asB_some e2
    refine ⟨δ, _, er, e1, fun x H1 s1 dx => ?_⟩
    cases dx
    refine ⟨k, rfl, ?_⟩
    cases k with
    | true => cases z; exact iteT (q _ _ s1 (.bl true))
    | false => exact iteF ⟨δ, d, er.on s1, z, q.on s1⟩
theorem p_not (ha : PE X a (tP X.K ga)) : PE X (.UnaryOp .Not a pos) (tP X.K fun δ => (ga δ).bind fun x => (asB x).bind fun k => some (.bool !k)) :=
  imp (pe_not ha) fun σ H Q ⟨δ, d, er, z, q⟩ => by
    obtain ⟨d1, e1, z⟩ := bnd z
    obtain ⟨k, e2, z⟩ := bnd z
    cases asB_some e2
    cases z
    refine ⟨δ, _, er, e1, fun x H1 s1 dx => ?_⟩
    cases dx
    exact ⟨k, rfl, q _ _ s1 (.bl _)⟩
variable {qa qb : En → Option Bool}
theorem q_and (ha : PT X a (tQ X.K qa)) (hb : PW X (.BoolOp .And (b :: rest) pos) (tQ X.K qb)) : PW X (.BoolOp .And (a :: b :: rest) pos) (tQ X.K fun δ => (qa δ).bind fun k => if k then qb δ else some false) :=
  impW (pw_and ha hb) fun σ H Q ⟨δ, d, er, z, q⟩ => by
    obtain ⟨k, e1, z⟩ := bnd z
    refine ⟨δ, k, er, e1, fun H1 s1 => ?_⟩
    cases k with
    | true => exact iteT ⟨δ, d, er.on s1, z, fun H2 s2 => q H2 (s1.trans s2)⟩
    | false => cases z; exact iteF (q _ s1)
theorem q_or (ha : PT X a (tQ X.K qa)) (hb : PW X (.BoolOp .Or (b :: rest) pos) (tQ X.K qb)) : PW X (.BoolOp .Or (a :: b :: rest) pos) (tQ X.K fun δ => (qa δ).bind fun k => if k then some true else qb δ) :=
  impW (pw_or ha hb) fun σ H Q ⟨δ, d, er, z, q⟩ => by
    obtain ⟨k, e1, z⟩ := bnd z
    refine ⟨δ, k, er, e1, fun H1 s1 => ?_⟩
    cases k with
    | true => cases z; exact iteT (q _ s1)
    | false => exact iteF ⟨δ, d, er.on s1, z, fun H2 s2 => q H2 (s1.trans s2)⟩
theorem q_not (ha : PT X a (tQ X.K qa)) : PT X (.UnaryOp .Not a pos) (tQ X.K fun δ => (qa δ).bind fun k => some !k) :=
  impT (pt_not ha) fun σ H Q ⟨δ, d, er, z, q⟩ => by
    obtain ⟨k, e1, z⟩ := bnd z
    cases z
    exact ⟨δ, k, er, e1, fun H1 s1 => q H1 s1⟩
theorem p_ife (hc : PT X c (tQ X.K qa)) (ha : PE X a (tP X.K ga)) (hb : PE X b (tP X.K gb)) : PE X (.IfExp c a b pos) (tP X.K fun δ => (qa δ).bind fun k => if k then ga δ else gb δ) :=
  imp (pe_ifExp hc ha hb) fun σ H Q ⟨δ, d, er, z, q⟩ => by
    obtain ⟨k, e1, z⟩ := bnd z
    refine ⟨δ, k, er, e1, fun H1 s1 => ?_⟩
    cases k with
    | true => exact iteT ⟨δ, d, er.on s1, z, q.on s1⟩
    | false => exact iteF ⟨δ, d, er.on s1, z, q.on s1⟩
/-! lists of expressions, displays -/
variable {gl : En → Option (List D)}
theorem l_nil : PA X [] (tL X.K fun _ => some []) := impA pa_nil fun σ H Q ⟨δ, d, er, z, q⟩ => by
  cases z
  exact q [] H (Same.refl H) .nil
theorem l_cons (ha : PE X e (tP X.K ga)) (hr : PA X es (tL X.K gl)) (hs : starEach (e :: es) X.env = (false, eval e X.env) :: starEach es X.env := by rfl) : PA X (e :: es) (tL X.K fun δ => (ga δ).bind fun x => (gl δ).bind fun r => some (x :: r)) :=
  impA (pa_cons ha hr hs) fun σ H Q ⟨δ, d, er, z, q⟩ => by
    obtain ⟨d1, e1, z⟩ := bnd z
    obtain ⟨r, e2, z⟩ := bnd z
    cases z
    exact ⟨δ, d1, er, e1, fun x H1 s1 dx => ⟨δ, r, er.on s1, e2, fun xs H2 s2 dxs => q _ _ (s1.trans s2) (.cons (dx.on s2) dxs)⟩⟩
theorem k_nil : PK X [] (tL X.K fun _ => some []) := impK pk_nil fun σ H Q ⟨δ, d, er, z, q⟩ => by
  cases z
  exact q [] H (Same.refl H) .nil
theorem k_cons {kws : List Keyword} {nm : Option Str} {kpos : Pos} (ha : PE X e (tP X.K ga)) (hr : PK X kws (tL X.K gl)) : PK X (⟨nm, e, kpos⟩ :: kws) (tL X.K fun δ => (ga δ).bind fun x => (gl δ).bind fun r => some (x :: r)) :=
  impK (pk_cons ha hr) fun σ H Q ⟨δ, d, er, z, q⟩ => by
    obtain ⟨d1, e1, z⟩ := bnd z
    obtain ⟨r, e2, z⟩ := bnd z
    cases z
    exact ⟨δ, d1, er, e1, fun x H1 s1 dx => ⟨δ, r, er.on s1, e2, fun xs H2 s2 dxs => q _ _ (s1.trans s2) (.cons (dx.on s2) dxs)⟩⟩
def disp (f : List D → D) (gl : En → Option (List D)) : En → Option D := fun δ => (gl δ).bind fun r => if r.length ≤ 1000 then some (f r) else none
theorem disp_some {f : List D → D} {r : List D} {d : D} (z : (if r.length ≤ 1000 then some (f r) else none) = some d) : r.length ≤ 1000 ∧ d = f r := by
  by_cases h : r.length ≤ 1000
  · rw [if_pos h] at z; cases z; exact ⟨h, rfl⟩
  · rw [if_neg h] at z; cases z
theorem p_tup {k : Nat} (h : PA X es (tL X.K gl)) : PE X (.Tuple es k pos) (tP X.K (disp .tuple gl)) := imp (pe_tup h) fun σ H Q ⟨δ, d, er, z, q⟩ => by
  obtain ⟨r, e1, z⟩ := bnd z
  obtain ⟨hl, rfl⟩ := disp_some z
  refine ⟨δ, r, er, e1, fun xs H1 s1 dxs => ⟨?_, fun p hp => ?_⟩⟩
  · rw [dxs.len]; exact Nat.le_of_lt (small1000 hl)
  · exact q _ _ (s1.trans (same_new hp)) (.tup (SqT.of upd_same) (dxs.on (same_new hp)))
theorem p_lst (h : PA X es (tL X.K gl)) : PE X (.List es pos) (tP X.K (disp .list gl)) := imp (pe_lst h) fun σ H Q ⟨δ, d, er, z, q⟩ => by
  obtain ⟨r, e1, z⟩ := bnd z
  obtain ⟨hl, rfl⟩ := disp_some z
  refine ⟨δ, r, er, e1, fun xs H1 s1 dxs => ⟨?_, fun p hp => ?_⟩⟩
  · rw [dxs.len]; exact Nat.le_of_lt (small1000 hl)
  · exact q _ _ (s1.trans (same_new hp)) (.lst upd_same (dxs.on (same_new hp)))
/-! calls of built-ins -/
theorem p_callB {x : Str} {p : Pos} {id : String} {g : List D → Option D} (hc : CallR X (.builtin id) (rC X.K g)) (hg : Gl X x) (hm : X.mg x = none) (hv : bootBuiltins x = some (.builtin id)) (ha : PA X (e :: es) (tL X.K gl)) (hn : x ≠ "__name__" := by decide) (hdb : (x == ("__debug__" : Str)) = false := by decide)
    (he : starEach (e :: es) X.env = (false, eval e X.env) :: starEach es X.env := by rfl) (hpl : (backTo pos (starEach es X.env)).any (·.1) = false := by rfl) : PE X (.Call (.Name x p) (e :: es) [] pos) (tP X.K fun δ => (gl δ).bind g) :=
  imp (pe_callB hc hg hm hv ha hn hdb he hpl) fun σ H Q ⟨δ, d, er, z, q⟩ => by
    obtain ⟨r, e1, z⟩ := bnd z
    exact ⟨δ, r, er, e1, fun xs H1 s1 dxs => ⟨er.sy.on s1, r, d, dxs, z, q.on s1⟩⟩
/-! calls of defs -/
theorem p_call {x : Str} {p : Pos} {f : Addr} {fd : FuncData} {ps : List Str} {k n : Nat} {g : List D → Option D} (F : FnOk X.prog X.w X.K X.mg X.base CX0 k f fd ps (spP X.K n g)) (hr : Room k X.A) (hg : Gl X x) (hm : X.mg x = some (.ref f)) (hk : PySem.W.keepIn X.K (.ref f) = true) (hb : Binds X.K fd ps [])
    (ha : PA X (e :: es) (tL X.K gl)) (hdb : (x == ("__debug__" : Str)) = false := by decide) (he : starEach (e :: es) X.env = (false, eval e X.env) :: starEach es X.env := by rfl) (hpl : (backTo pos (starEach es X.env)).any (·.1) = false := by rfl) :
    PE X (.Call (.Name x p) (e :: es) [] pos) (tP X.K fun δ => (gl δ).bind fun r => if r.length = n then g r else none) :=
  imp (pe_call F hr hg hm hk hb .nil pass0 ha hdb he hpl) fun σ H Q ⟨δ, d, er, z, q⟩ => by
    obtain ⟨r, e1, z⟩ := bnd z
    by_cases hn : r.length = n
    · rw [if_pos hn] at z
      refine ⟨δ, r, er, e1, fun xs H1 s1 dxs => ?_⟩
      have en : xs ++ [] = xs := List.append_nil xs
      show spP X.K n g (xs ++ []) H1 Q E0
      rw [en]
      exact ⟨er.sy.on s1, r, d, dxs, hn, z, q.on s1⟩
    · rw [if_neg hn] at z; cases z
/-! statements -/
def seqO (g1 g2 : En → Option Out) : En → Option Out := fun δ => (g1 δ).bind fun o => match o with
  | .nx δ' => g2 δ'
  | .rt d => some (.rt d)
theorem s_cons {st : Stmt} {rest : List Stmt} {g1 g2 : En → Option Out} (h1 : PS X st (tS X.K g1)) (h2 : PSs X rest (tS X.K g2)) : PSs X (st :: rest) (tS X.K (seqO g1 g2)) :=
  impSs (pss_cons h1 h2) fun E σ H ⟨δ, o, er, z, q⟩ => by
    obtain ⟨o1, e1, z⟩ := bnd z
    refine ⟨δ, o1, er, e1, ?_⟩
    cases o1 with
    | nx δ' =>
      intro σ' H' s1 er' z0
      refine ⟨δ', o, er', z, ?_⟩
      rw [z0]
      exact wish_on q s1
    | rt d =>
      cases z
      exact q
theorem s_nil : PSs X [] (tS X.K fun δ => some (.nx δ)) := impSs pss_nil fun E σ H ⟨δ, o, er, z, q⟩ => by
  cases z
  exact q σ H (Same.refl H) er rfl
theorem s_ret (h : PE X e (tP X.K ga)) : PS X (.Return (some e) pos) (tS X.K fun δ => (ga δ).bind fun d => some (.rt d)) := impS (ps_ret h) fun E σ H ⟨δ, o, er, z, q⟩ => by
  obtain ⟨d, e1, z⟩ := bnd z
  cases z
  exact ⟨δ, d, er, e1, q⟩
theorem s_if {a b : List Stmt} {g1 g2 : En → Option Out} (hc : PT X c (tQ X.K qa)) (ha : PSs X a (tS X.K g1)) (hb : PSs X b (tS X.K g2)) : PS X (.If c a b pos) (tS X.K fun δ => (qa δ).bind fun k => if k then g1 δ else g2 δ) :=
  impS (ps_if hc ha hb) fun E σ H ⟨δ, o, er, z, q⟩ => by
    obtain ⟨k, e1, z⟩ := bnd z
    refine ⟨δ, k, er, e1, fun H1 s1 => ?_⟩
    have q' := wish_on q s1
    cases k with
    | true => exact iteT ⟨δ, o, er.on s1, z, q'⟩
    | false => exact iteF ⟨δ, o, er.on s1, z, q'⟩
theorem s_set {i : Nat} {x : Str} {tp : Pos} (hN : X.N.Nodup) (hi : X.N[i]? = some x) (hx : Loc X.env.scope x) (h : PE X e (tP X.K ga)) (hs : swapsWith e (some (.Name x tp)) pos.line X.env = pure false := by rfl)
    (hf : X.fn x = true ∨ X.env.scope.names.lookup x = some .local := by first | exact .inl rfl | exact .inr rfl | assumption) (h0 : i ≠ 0 := by decide) : PS X (.Assign [.Name x tp] e pos) (tS X.K fun δ => (ga δ).bind fun d => some (.nx (δ.set i (some d)))) :=
  impS (ps_set hN hi hx h hs hf) fun E σ H ⟨δ, o, er, z, q⟩ => by
    obtain ⟨d, e1, z⟩ := bnd z
    cases z
    exact ⟨δ, d, er, e1, fun v H1 s1 dv => q _ _ s1 ((er.on s1).set i dv) (List.getElem?_set_ne h0)⟩
end
end Wn

namespace Wn
open PySem PySem.Spec PyProof.Rows L2
def tyN : D → String
  | .none => "NoneType"
  | .bool _ => "bool"
  | .int _ => "int"
  | .str _ => "str"
  | .list _ => "list"
  | .tuple _ => "tuple"
  | .dict _ => "dict"
/-- an exception or an object -/
def tagged : D → Bool
  | .dict l => match l with
    | (k, _) :: _ => !keyS k
    | [] => false
  | _ => false
theorem Dt.ty {K : PySem.W.Frag} {H : Hp} {v : V} {d : D} (h : Dt K H v d) (nt : tagged d = false) : TyX K H v (.type (tyN d)) := by
  cases h with
  | non => exact .base .non
  | bl b => exact .base (.bl b)
  | int i => exact .base (.int i)
  | str x => exact .base (.str x)
  | lst s a => exact .base (.lst s)
  | tup s a =>
    rcases s with (s | ⟨o, s⟩) | ⟨o, its, n, k, c, _⟩
    · exact .base (.tup s)
    · exact .fTuple s
    · exact .kTuple k c
  | dic s a => exact .base (.dK s)
  | exz _ _ => cases nt
  | exc _ _ _ _ => cases nt
  | obj _ _ _ => cases nt
theorem ntag {d : D} {α : Type} {x : Option α} {z : α} (h : (if tagged d = true then none else x) = some z) : tagged d = false ∧ x = some z := by
  cases q : tagged d with
  | true => rw [q, if_pos rfl] at h; cases h
  | false => rw [q, if_neg (by decide)] at h; exact ⟨rfl, h⟩
def isB : D → Bool
  | .bool _ => true
  | _ => false
def isI : D → Bool
  | .bool _ => true
  | .int _ => true
  | _ => false
def isS : D → Bool
  | .str _ => true
  | _ => false
def isT : D → Bool
  | .tuple _ => true
  | _ => false
theorem kB : ∀ d, kitB (tyN d) "bool" = some (isB d)
  | .none => (by decide +kernel : kitB "NoneType" "bool" = some false)
  | .bool _ => (by decide +kernel : kitB "bool" "bool" = some true)
  | .int _ => (by decide +kernel : kitB "int" "bool" = some false)
  | .str _ => (by decide +kernel : kitB "str" "bool" = some false)
  | .list _ => (by decide +kernel : kitB "list" "bool" = some false)
  | .tuple _ => (by decide +kernel : kitB "tuple" "bool" = some false)
  | .dict _ => (by decide +kernel : kitB "dict" "bool" = some false)
theorem kI : ∀ d, kitB (tyN d) "int" = some (isI d)
  | .none => (by decide +kernel : kitB "NoneType" "int" = some false)
  | .bool _ => (by decide +kernel : kitB "bool" "int" = some true)
  | .int _ => (by decide +kernel : kitB "int" "int" = some true)
  | .str _ => (by decide +kernel : kitB "str" "int" = some false)
  | .list _ => (by decide +kernel : kitB "list" "int" = some false)
  | .tuple _ => (by decide +kernel : kitB "tuple" "int" = some false)
  | .dict _ => (by decide +kernel : kitB "dict" "int" = some false)
theorem kS : ∀ d, kitB (tyN d) "str" = some (isS d)
  | .none => (by decide +kernel : kitB "NoneType" "str" = some false)
  | .bool _ => (by decide +kernel : kitB "bool" "str" = some false)
  | .int _ => (by decide +kernel : kitB "int" "str" = some false)
  | .str _ => (by decide +kernel : kitB "str" "str" = some true)
  | .list _ => (by decide +kernel : kitB "list" "str" = some false)
  | .tuple _ => (by decide +kernel : kitB "tuple" "str" = some false)
  | .dict _ => (by decide +kernel : kitB "dict" "str" = some false)
theorem kT : ∀ d, kitB (tyN d) "tuple" = some (isT d)
  | .none => (by decide +kernel : kitB "NoneType" "tuple" = some false)
  | .bool _ => (by decide +kernel : kitB "bool" "tuple" = some false)
  | .int _ => (by decide +kernel : kitB "int" "tuple" = some false)
  | .str _ => (by decide +kernel : kitB "str" "tuple" = some false)
  | .list _ => (by decide +kernel : kitB "list" "tuple" = some false)
  | .tuple _ => (by decide +kernel : kitB "tuple" "tuple" = some true)
  | .dict _ => (by decide +kernel : kitB "dict" "tuple" = some false)
section
variable {X : Cx} {e a b c : Expr} {es : List Expr} {pos : Pos} {ga gb gc : En → Option D} {gl : En → Option (List D)}
theorem p_isi {p p' : Pos} {T : Str} {Ts : String} {f : D → Bool} (hf : ∀ d, kitB (tyN d) Ts = some (f d)) (hg : Gl X "isinstance") (hm : X.mg "isinstance" = none) (hT : PE X (.Name T p') (tC (.ty Ts))) (ha : PE X e (tP X.K ga))
    (he : starEach [e, .Name T p'] X.env = (false, eval e X.env) :: starEach [.Name T p'] X.env := by rfl) (he2 : starEach [.Name T p'] X.env = (false, eval (.Name T p') X.env) :: starEach [] X.env := by rfl) (hpl : (backTo pos (starEach [.Name T p'] X.env)).any (·.1) = false := by rfl) :
    PE X (.Call (.Name "isinstance" p) [e, .Name T p'] [] pos) (tP X.K fun δ => (ga δ).bind fun d => if tagged d then none else some (.bool (f d))) :=
  imp (pe_callB call_isi hg hm (by decide +kernel) (pa_cons ha (pa_cons hT pa_nil he2) he) (by decide) (by decide) he hpl) fun σ H Q ⟨δ, d, er, z, q⟩ => by
    obtain ⟨d1, e1, z⟩ := bnd z
    obtain ⟨nt, z⟩ := ntag z
    cases z
    refine ⟨δ, d1, er, e1, fun x H1 s1 dx => ?_⟩
    exact ⟨x, .ty Ts, _, _, f d1, rfl, ClsV.ty Ts, dx.ty nt, kit_ty (hf d1), q _ _ s1 (.bl _)⟩
theorem p_isi2 {p p1 p2 pt : Pos} {k : Nat} {T U : Str} {Ts Us : String} {f g : D → Bool} (hf : ∀ d, kitB (tyN d) Ts = some (f d)) (hf2 : ∀ d, kitB (tyN d) Us = some (g d)) (hg : Gl X "isinstance") (hm : X.mg "isinstance" = none) (hT : PE X (.Name T p1) (tC (.ty Ts))) (hU : PE X (.Name U p2) (tC (.ty Us))) (ha : PE X e (tP X.K ga))
    (he : starEach [e, .Tuple [.Name T p1, .Name U p2] k pt] X.env = (false, eval e X.env) :: starEach [.Tuple [.Name T p1, .Name U p2] k pt] X.env := by rfl) (he2 : starEach [.Tuple [.Name T p1, .Name U p2] k pt] X.env = (false, eval (.Tuple [.Name T p1, .Name U p2] k pt) X.env) :: starEach [] X.env := by rfl)
    (he3 : starEach [.Name T p1, .Name U p2] X.env = (false, eval (.Name T p1) X.env) :: starEach [.Name U p2] X.env := by rfl) (he4 : starEach [.Name U p2] X.env = (false, eval (.Name U p2) X.env) :: starEach [] X.env := by rfl)
    (hpl : (backTo pos (starEach [.Tuple [.Name T p1, .Name U p2] k pt] X.env)).any (·.1) = false := by rfl) :
    PE X (.Call (.Name "isinstance" p) [e, .Tuple [.Name T p1, .Name U p2] k pt] [] pos) (tP X.K fun δ => (ga δ).bind fun d => if tagged d then none else some (.bool (f d || g d))) :=
  imp (pe_callB call_isiT hg hm (by decide +kernel) (pa_cons ha (pa_cons (pe_tup (pa_cons hT (pa_cons hU pa_nil he4) he3)) pa_nil he2) he) (by decide) (by decide) he hpl) fun σ H Q ⟨δ, d, er, z, q⟩ => by
    obtain ⟨d1, e1, z⟩ := bnd z
    obtain ⟨nt, z⟩ := ntag z
    cases z
    refine ⟨δ, d1, er, e1, fun x H1 s1 dx => ⟨by show 2 ≤ sizeLine; decide, fun t ht => ?_⟩⟩
    refine ⟨x, t, [.ty Ts, .ty Us], _, [.type Ts, .type Us], f d1 || g d1, rfl, upd_same, .cons (.ty Ts) (.cons (.ty Us) .nil), (dx.on (same_new ht)).ty nt, ?_, q _ _ (s1.trans (same_new ht)) (.bl _)⟩
    refine kitAny_cons (kit_ty (hf d1)) (fun e => ?_) (fun e => by rw [e]; rfl)
    rw [e]
    exact kitAny_cons (kit_ty (hf2 d1)) (fun e => by rw [e]; rfl) (fun e => by rw [e]; rfl)
/-! len, all -/
def lenD : List D → Option D
  | [.str z] => if z.length ≤ 1000 then some (.int z.length) else none
  | [.list ds] => some (.int ds.length)
  | [.tuple ds] => some (.int ds.length)
  | _ => none
theorem c_len : CallR X (.builtin "len") (rC X.K lenD) := impC call_len fun xs H Q ⟨_, as, d, h, z, q⟩ => by
  match as, z, h with
  | [.str y], z, .cons hv .nil =>
    cases hv
    by_cases hl : y.length ≤ 1000
    · simp only [lenD, if_pos hl] at z
      cases z
      exact ⟨_, y.length, rfl, ⟨Nat.le_of_lt (small1000 hl), rfl⟩, q.now (.int _)⟩
    · simp only [lenD, if_neg hl] at z
      cases z
  | [.list ds], z, .cons hv .nil =>
    cases z
    cases hv with
    | lst s a => exact ⟨_, _, rfl, .inl ⟨_, SqL.of s, rfl⟩, by rw [a.len]; exact q.now (.int _)⟩
  | [.tuple ds], z, .cons hv .nil =>
    cases z
    cases hv with
    | tup s a => exact ⟨_, _, rfl, .inr ⟨_, s, rfl⟩, by rw [a.len]; exact q.now (.int _)⟩
def bools : List D → Option (List Bool)
  | [] => some []
  | .bool b :: r => (bools r).bind fun bs => some (b :: bs)
  | _ => none
theorem bools_some : ∀ {ds : List D} {bs : List Bool}, bools ds = some bs → ds = bs.map PyData.bool
  | [], _, h => by cases h; rfl
  | .bool b :: r, bs, h => by
    obtain ⟨cs, e, h⟩ := bnd (show ((bools r).bind fun bs => some (b :: bs)) = some bs from h)
    cases h
    rw [bools_some e]
    rfl
  | .none :: _, _, h => by cases h
  | .int _ :: _, _, h => by cases h
  | .str _ :: _, _, h => by cases h
  | .list _ :: _, _, h => by cases h
  | .tuple _ :: _, _, h => by cases h
  | .dict _ :: _, _, h => by cases h
def allD : List D → Option D
  | [.list ds] => (bools ds).bind fun bs => some (.bool (bs.all id))
  | _ => none
theorem c_all (hc : X.calm = true) : CallR X (.builtin "all") (rC X.K allD) := impC (cr_all hc) fun xs H Q ⟨_, as, d, h, z, q⟩ => by
  match as, z, h with
  | [.list ds], z, .cons hv .nil =>
    obtain ⟨bs, e, z⟩ := bnd (show ((bools ds).bind fun bs => some (.bool (bs.all id))) = some d from z)
    cases z
    have e := bools_some e
    subst e
    cases hv with
    | lst s a => exact ⟨_, bs, rfl, by rw [← a.bls]; exact SqL.of s, q.now (.bl _)⟩
/-! comparisons -/
def strEq : D → D → Option Bool
  | .str x, .str y => some (decide (x = y))
  | _, _ => none
theorem strEq_some {x y : D} {b : Bool} (h : strEq x y = some b) : ∃ p q, x = .str p ∧ y = .str q ∧ b = decide (p = q) := by
  cases x <;> first | (cases h; done) | skip
  cases y <;> first | (cases h; done) | skip
  cases h
  exact ⟨_, _, rfl, rfl, rfl⟩
theorem dec_strV {p q : Str} : decide (V.str p = V.str q) = decide (p = q) := by
  by_cases h : p = q
  · subst h; simp
  · rw [decide_eq_false h, decide_eq_false fun z => h (V.str.inj z)]
def eqD (x y : D) : Option D := match strEq x y with
  | some b => some (.bool b)
  | none => if SeqAt.shaped x && SeqAt.shaped y then some (.bool (PyData.eqv x y)) else none
def neD (x y : D) : Option D := match strEq x y with
  | some b => some (.bool !b)
  | none => if SeqAt.shaped x && SeqAt.shaped y then some (.bool (!PyData.eqv x y)) else none
mutual
theorem plain_of : ∀ d : D, d.hasDict = false → plain d = true
  | .none, _ => rfl
  | .bool _, _ => rfl
  | .int _, _ => rfl
  | .str _, _ => rfl
  | .list ds, h => plainAll_of ds h
  | .tuple ds, h => plainAll_of ds h
  | .dict _, h => by cases h
theorem plainAll_of : ∀ ds : List D, PyData.hasDictAll ds = false → plainAll ds = true
  | [], _ => rfl
  | d :: r, h => by
    obtain ⟨h1, h2⟩ := Bool.or_eq_false_iff.mp (show (d.hasDict || PyData.hasDictAll r) = false from h)
    show (plain d && plainAll r) = true
    rw [plain_of d h1, plainAll_of r h2]
    rfl
end
theorem noD {d : D} (h : SeqAt.shaped d = true) : plain d = true := plain_of d (PyData.hasDict_of_canLay d (SeqAt.canLay_of_shaped h))
theorem o_eq (hu : X.A.units + 64 < cLine) : OpR X (compareOp .Eq) (r2 X.K eqD) := by
  intro pins st σ H x y v u Q J rx ry h
  obtain ⟨d1, d2, d, h1, h2, z, q⟩ := h
  unfold eqD at z
  cases hse : strEq d1 d2 with
  | some bb =>
    rw [hse] at z
    cases z
    obtain ⟨p1, p2, rfl, rfl, rfl⟩ := strEq_some hse
    cases h1; cases h2
    exact op_eq pins st σ H _ _ v u Q J rx ry ⟨rfl, by rw [dec_strV]; exact q.now (.bl _)⟩
  | none =>
  rw [hse] at z
  have z : (if (SeqAt.shaped d1 && SeqAt.shaped d2) = true then _ else none) = some d := z
  by_cases hs : (SeqAt.shaped d1 && SeqAt.shaped d2) = true
  · rw [if_pos hs] at z
    cases z
    obtain ⟨g1, g2⟩ := Bool.and_eq_true_iff.mp hs
    obtain ⟨as, a1, _⟩ := Dt.reads J h1 v rx (noD g1)
    obtain ⟨bs, a2, _⟩ := Dt.reads J h2 u ry (noD g2)
    exact SeqAt.compareEq_shaped a1 a2 g1 g2 hu ⟨.bl _, H, J, rfl, q.now (.bl _)⟩
  · rw [if_neg hs] at z; cases z
theorem o_ne (hu : X.A.units + 64 < cLine) : OpR X (compareOp .NotEq) (r2 X.K neD) := by
  intro pins st σ H x y v u Q J rx ry h
  obtain ⟨d1, d2, d, h1, h2, z, q⟩ := h
  unfold neD at z
  cases hse : strEq d1 d2 with
  | some bb =>
    rw [hse] at z
    cases z
    obtain ⟨p1, p2, rfl, rfl, rfl⟩ := strEq_some hse
    cases h1; cases h2
    exact op_ne pins st σ H _ _ v u Q J rx ry ⟨rfl, by rw [dec_strV]; exact q.now (.bl _)⟩
  | none =>
  rw [hse] at z
  have z : (if (SeqAt.shaped d1 && SeqAt.shaped d2) = true then _ else none) = some d := z
  by_cases hs : (SeqAt.shaped d1 && SeqAt.shaped d2) = true
  · rw [if_pos hs] at z
    cases z
    obtain ⟨g1, g2⟩ := Bool.and_eq_true_iff.mp hs
    obtain ⟨as, a1, _⟩ := Dt.reads J h1 v rx (noD g1)
    obtain ⟨bs, a2, _⟩ := Dt.reads J h2 u ry (noD g2)
    exact SeqAt.compareNe_shaped a1 a2 g1 g2 hu ⟨.bl _, H, J, rfl, q.now (.bl _)⟩
  · rw [if_neg hs] at z; cases z
def onI (f : Int → Int → Option D) : D → D → Option D
  | .int i, .int j => f i j
  | _, _ => none
theorem onI_some {f : Int → Int → Option D} {x y d : D} (h : onI f x y = some d) : ∃ i j, x = .int i ∧ y = .int j ∧ f i j = some d := by
  cases x <;> first | (cases h; done) | skip
  cases y <;> first | (cases h; done) | skip
  exact ⟨_, _, rfl, rfl, h⟩
theorem o_int {F : Value → Value → Sem Value} {g : Int → Int → V} {f : Int → Int → Option D} (h : OpR X F (rI0 g)) (hf : ∀ H i j d, f i j = some d → Dt X.K H (g i j) d) : OpR X F (r2 X.K (onI f)) := impO h fun x y H Q ⟨a, b, d, h1, h2, z, q⟩ => by
  obtain ⟨i, j, rfl, rfl, z⟩ := onI_some z
  cases h1; cases h2
  exact ⟨i, j, rfl, rfl, q.now (hf H i j d z)⟩
theorem o_intC {F : Value → Value → Sem Value} {C : Int → Int → Prop} {g : Int → Int → V} {f : Int → Int → Option D} (h : OpR X F (rI C g)) (hf : ∀ H i j d, f i j = some d → C i j ∧ Dt X.K H (g i j) d) : OpR X F (r2 X.K (onI f)) := impO h fun x y H Q ⟨a, b, d, h1, h2, z, q⟩ => by
  obtain ⟨i, j, rfl, rfl, z⟩ := onI_some z
  cases h1; cases h2
  exact ⟨i, j, rfl, rfl, (hf H i j d z).1, q.now (hf H i j d z).2⟩
theorem o_lt : OpR X (compareOp .Lt) (r2 X.K (onI fun i j => some (.bool (decide (i < j))))) := o_int op_lt fun _ _ _ _ h => by cases h; exact .bl _
theorem o_le : OpR X (compareOp .LtE) (r2 X.K (onI fun i j => some (.bool (decide (i ≤ j))))) := o_int op_le fun _ _ _ _ h => by cases h; exact .bl _
theorem o_gt : OpR X (compareOp .Gt) (r2 X.K (onI fun i j => some (.bool (decide (j < i))))) := o_int op_gt fun _ _ _ _ h => by cases h; exact .bl _
theorem o_ge : OpR X (compareOp .GtE) (r2 X.K (onI fun i j => some (.bool (decide (j ≤ i))))) := o_int op_ge fun _ _ _ _ h => by cases h; exact .bl _
theorem o_add : OpR X (binaryOp .Add) (r2 X.K (onI fun i j => some (.int (i + j)))) := o_int op_add fun _ _ _ _ h => by cases h; exact .int _
theorem orO {F : Value → Value → Sem Value} {r r' : R2} (h : OpR X F r) (h' : OpR X F r') : OpR X F fun x y H Q => r x y H Q ∨ r' x y H Q := fun pins st σ H x y v u Q J rx ry q => by
  rcases q with one | other
  · exact h pins st σ H x y v u Q J rx ry one
  · exact h' pins st σ H x y v u Q J rx ry other
def addD : D → D → Option D
  | .int i, .int j => some (.int (i + j))
  | .list xs, .list ys => if xs.length + ys.length ≤ 1000 then some (.list (xs ++ ys)) else none
  | .tuple xs, .tuple ys => if xs.length + ys.length ≤ 1000 then some (.tuple (xs ++ ys)) else none
  | _, _ => none
theorem o_addA : OpR X (binaryOp .Add) (r2 X.K addD) := impO (orO op_add (orO op_cat op_catA)) fun x y H Q ⟨a, b, d, h1, h2, z, q⟩ => by
  cases a <;> first | (cases z; done) | skip
  · cases b <;> first | (cases z; done) | skip
    cases z; cases h1; cases h2
    exact .inl ⟨_, _, rfl, rfl, q.now (.int _)⟩
  · cases b <;> first | (cases z; done) | skip
    rename_i xs ys
    by_cases hl : xs.length + ys.length ≤ 1000
    · simp only [addD, if_pos hl] at z
      cases z
      cases h1 with
      | lst s1 a1 => cases h2 with
        | lst s2 a2 =>
          refine .inr (.inl ⟨_, _, _, _, rfl, rfl, s1, s2, ?_, fun p hp => ?_⟩)
          · rw [a1.len, a2.len]; exact Nat.le_of_lt (small1000 hl)
          · exact q _ _ (same_new hp) (.lst upd_same ((a1.app a2).on (same_new hp)))
    · simp only [addD, if_neg hl] at z; cases z
  · cases b <;> first | (cases z; done) | skip
    rename_i xs ys
    by_cases hl : xs.length + ys.length ≤ 1000
    · simp only [addD, if_pos hl] at z
      cases z
      cases h1 with
      | tup s1 a1 => cases h2 with
        | tup s2 a2 =>
          have n1 := a1.len
          have n2 := a2.len
          refine .inr (.inr ⟨_, _, _, _, rfl, rfl, s1, s2, ?_, fun e => ?_, fun _ e => ?_, fun _ _ p hp => ?_⟩)
          · rw [n1, n2]; exact Nat.le_of_lt (small1000 hl)
          · subst e
            have : xs = [] := List.eq_nil_of_length_eq_zero n1.symm
            subst this
            exact q.now (.tup s2 a2)
          · subst e
            have : ys = [] := List.eq_nil_of_length_eq_zero n2.symm
            subst this
            exact q.now (.tup s1 (by rw [List.append_nil]; exact a1))
          · exact q _ _ (same_new hp) (.tup (SqT.of upd_same) ((a1.app a2).on (same_new hp)))
    · simp only [addD, if_neg hl] at z; cases z
theorem o_sub : OpR X (binaryOp .Sub) (r2 X.K (onI fun i j => some (.int (i - j)))) := o_int op_sub fun _ _ _ _ h => by cases h; exact .int _
def small (i : Int) : Bool := decide (-18446744073709551616 < i) && decide (i < 18446744073709551616)
theorem o_mul : OpR X (binaryOp .Mult) (r2 X.K (onI fun i j => if small i then some (.int (i * j)) else none)) := o_intC op_mul fun _ i j _ h => by
  by_cases hs : small i = true
  · rw [if_pos hs] at h
    cases h
    obtain ⟨a, b⟩ := Bool.and_eq_true_iff.mp hs
    exact ⟨.inl ⟨by have := of_decide_eq_true a; omega, by have := of_decide_eq_true b; omega⟩, .int _⟩
  · rw [if_neg hs] at h
    cases h
theorem o_pow : OpR X (binaryOp .Pow) (r2 X.K (onI fun i j => if i = 10 ∧ 0 ≤ j ∧ j ≤ 1000 then some (.int (i ^ j.toNat)) else none)) := o_intC op_pow fun _ i j _ h => by
  by_cases hs : i = 10 ∧ 0 ≤ j ∧ j ≤ 1000
  · rw [if_pos hs] at h
    cases h
    obtain ⟨rfl, a, b⟩ := hs
    exact ⟨⟨a, by omega, by decide⟩, .int _⟩
  · rw [if_neg hs] at h
    cases h
def negD : D → Option D
  | .int i => some (.int (-i))
  | _ => none
theorem u_neg : UnR X (unaryOp .USub) (r1 X.K negD) := impU un_neg fun x H Q ⟨a, d, h, z, q⟩ => by
  cases a with
  | int i => cases h; cases z; exact ⟨i, rfl, q.now (.int _)⟩
  | _ => cases z
def signIn : D → D → Option Bool
  | .str x, .str y => if x.cps.size = 1 then some (decide (x.cps.getD 0 0 ∈ y.cps.toList)) else none
  | _, _ => none
theorem signIn_some {x y : D} {b : Bool} (h : signIn x y = some b) : ∃ c z, x = .str ⟨#[c]⟩ ∧ y = .str z ∧ b = decide (c ∈ z.cps.toList) := by
  cases x <;> first | (cases h; done) | skip
  cases y <;> first | (cases h; done) | skip
  rename_i x y
  by_cases hs : x.cps.size = 1
  · simp only [signIn, if_pos hs] at h
    obtain ⟨⟨l⟩⟩ := x
    match l, hs, h with
    | [c], _, h => cases h; exact ⟨c, y, rfl, rfl, rfl⟩
  · simp only [signIn, if_neg hs] at h; cases h
theorem o_in : OpR X (compareOp .In) (r2 X.K fun x y => (signIn x y).bind fun b => some (.bool b)) := impO op_in_sign fun x y H Q ⟨a, b, d, h1, h2, z, q⟩ => by
  obtain ⟨k, e, z⟩ := bnd z
  cases z
  obtain ⟨c, w, rfl, rfl, rfl⟩ := signIn_some e
  cases h1; cases h2
  exact ⟨c, w, rfl, rfl, q.now (.bl _)⟩
theorem o_notin : OpR X (compareOp .NotIn) (r2 X.K fun x y => (signIn x y).bind fun b => some (.bool !b)) := impO op_notIn_sign fun x y H Q ⟨a, b, d, h1, h2, z, q⟩ => by
  obtain ⟨k, e, z⟩ := bnd z
  cases z
  obtain ⟨c, w, rfl, rfl, rfl⟩ := signIn_some e
  cases h1; cases h2
  exact ⟨c, w, rfl, rfl, q.now (.bl _)⟩
/-- a flat datum, a sequence of flat ones -/
def flatD : D → Option V
  | .none => some .non
  | .bool b => some (.bl b)
  | .int i => some (.int i)
  | .str x => some (.str x)
  | _ => none
theorem flatD_dt {d : D} {v : V} (h : flatD d = some v) (K : PySem.W.Frag) (H : Hp) : Dt K H v d := by
  cases d <;> cases h
  · exact .non
  · exact .bl _
  · exact .int _
  · exact .str _
theorem flatD_is {K : PySem.W.Frag} {H : Hp} {d : D} {v w : V} (h : flatD d = some v) (g : Dt K H w d) : w = v := by
  cases d <;> cases h <;> cases g <;> rfl
theorem flatD_flat {d : D} {v : V} (h : flatD d = some v) : flatV v = true := by
  cases d <;> cases h <;> rfl
def flats : List D → Option (List V)
  | [] => some []
  | d :: r => (flatD d).bind fun v => (flats r).bind fun vs => some (v :: vs)
theorem flats_is {K : PySem.W.Frag} {H : Hp} : ∀ {ds : List D} {vs ws : List V}, flats ds = some vs → DtAll K H ws ds → ws = vs
  | [], _, _, h, g => by cases h; cases g; rfl
  | d :: r, _, _, h, g => by
    obtain ⟨v, e1, h⟩ := bnd (show ((flatD d).bind fun v => (flats r).bind fun vs => some (v :: vs)) = some _ from h)
    obtain ⟨vs, e2, h⟩ := bnd h
    cases h
    cases g with
    | cons a b => rw [flatD_is e1 a, flats_is e2 b]
theorem flats_dt : ∀ {ds : List D} {vs : List V}, flats ds = some vs → ∀ (K : PySem.W.Frag) (H : Hp), DtAll K H vs ds
  | [], _, h, _, _ => by cases h; exact .nil
  | d :: r, _, h, K, H => by
    obtain ⟨v, e1, h⟩ := bnd (show ((flatD d).bind fun v => (flats r).bind fun vs => some (v :: vs)) = some _ from h)
    obtain ⟨vs, e2, h⟩ := bnd h
    cases h
    exact .cons (flatD_dt e1 K H) (flats_dt e2 K H)
theorem flats_flat : ∀ {ds : List D} {vs : List V}, flats ds = some vs → vs.all flatV = true
  | [], _, h => by cases h; rfl
  | d :: r, _, h => by
    obtain ⟨v, e1, h⟩ := bnd (show ((flatD d).bind fun v => (flats r).bind fun vs => some (v :: vs)) = some _ from h)
    obtain ⟨vs, e2, h⟩ := bnd h
    cases h
    rw [List.all_cons, flatD_flat e1, flats_flat e2]
    rfl
def items : D → Option (List D)
  | .list ds => some ds
  | .tuple ds => some ds
  | _ => none
def seqIn (neg : Bool) (x y : D) : Option D := (flatD x).bind fun v => (items y).bind fun ds => (flats ds).bind fun vs => some (.bool (if neg then !inV v vs else inV v vs))
theorem o_seq {F : Value → Value → Sem Value} {neg : Bool} (h : OpR X F (rIn X.K neg)) : OpR X F (r2 X.K (seqIn neg)) := impO h fun x y H Q ⟨a, b, d, h1, h2, z, q⟩ => by
  obtain ⟨v, e1, z⟩ := bnd z
  obtain ⟨ds, e2, z⟩ := bnd z
  obtain ⟨vs, e3, z⟩ := bnd z
  cases z
  have ex := flatD_is e1 h1
  subst ex
  cases b <;> first | (cases e2; done) | skip
  · cases e2
    cases h2 with
    | lst s g =>
      have := flats_is e3 g
      subst this
      exact ⟨_, _, rfl, .inl (SqL.of s), flatD_flat e1, flats_flat e3, q.now (.bl _)⟩
  · cases e2
    cases h2 with
    | tup s g =>
      have := flats_is e3 g
      subst this
      exact ⟨_, _, rfl, .inr s, flatD_flat e1, flats_flat e3, q.now (.bl _)⟩
/-! places -/
def ixD : D → D → Option D
  | .tuple ds, .int i => if 0 ≤ i then ds[i.toNat]? else none
  | .list ds, .int i => if 0 ≤ i then ds[i.toNat]? else none
  | _, _ => none
theorem orI {r r' : R2} (h : IxR X r) (h' : IxR X r') : IxR X fun x y H Q => r x y H Q ∨ r' x y H Q := fun value slice pins st σ H x y v u Q J rx ry q hs => by
  rcases q with one | other
  · exact h value slice pins st σ H x y v u Q J rx ry one hs
  · exact h' value slice pins st σ H x y v u Q J rx ry other hs
theorem p_ix (ha : PE X a (tP X.K ga)) (hb : PE X b (tP X.K gb)) (hs : PlainIx b) : PE X (.Subscript a b pos) (tP X.K fun δ => (ga δ).bind fun x => (gb δ).bind fun y => ixD x y) :=
  imp (pe_ix (orI ix_list ix_tup) ha hb hs) fun σ H Q ⟨δ, d, er, z, q⟩ => by
    obtain ⟨d1, e1, z⟩ := bnd z
    obtain ⟨d2, e2, z⟩ := bnd z
    refine ⟨δ, d1, er, e1, fun x H1 s1 dx => ⟨δ, d2, er.on s1, e2, fun y H2 s2 dy => ?_⟩⟩
    have dx := dx.on s2
    have q := q.on (s1.trans s2)
    have fin : ∀ (ds : List D) (i : Int) (vs : List V), (if 0 ≤ i then ds[i.toNat]? else none) = some d → DtAll X.K H2 vs ds → ∃ v, atI vs i = some v ∧ Q v H2 := fun ds i vs z all => by
      by_cases hi : 0 ≤ i
      · rw [if_pos hi] at z
        obtain ⟨v, ev, dv⟩ := all.at z
        have e : i = ((i.toNat : Nat) : Int) := by omega
        refine ⟨v, ?_, q.now dv⟩
        rw [e]
        exact atI_nat ev
      · rw [if_neg hi] at z; cases z
    cases d2 <;> first | (cases d1 <;> cases z; done) | skip
    cases d1 <;> first | (cases z; done) | skip
    · cases dy
      cases dx with
      | lst s g =>
        obtain ⟨v, ev, w⟩ := fin _ _ _ z g
        exact .inl ⟨_, _, _, v, rfl, rfl, SqL.of s, ev, w⟩
    · cases dy
      cases dx with
      | tup s g =>
        obtain ⟨v, ev, w⟩ := fin _ _ _ z g
        exact .inr ⟨_, _, _, v, rfl, rfl, s, ev, w⟩
end
end Wn

namespace Wn
open PySem PySem.Spec PyProof.Rows L2
/-! ### repr -/
def shownOk (d : D) : Bool := d.showable && (decide (d.depth ≤ 50) && (decide (d.shown.length ≤ 1000) && plain d))
def shownD : List D → Option D
  | [d] => if shownOk d then some (.str d.shown) else none
  | _ => none
section
variable {X : Cx}
theorem shown_at {d : D} (h : shownOk d = true) : d.showable = true ∧ d.depth ≤ 50 ∧ d.shown.length ≤ 1000 ∧ plain d = true := by
  obtain ⟨h1, h⟩ := Bool.and_eq_true_iff.mp h
  obtain ⟨h2, h⟩ := Bool.and_eq_true_iff.mp h
  obtain ⟨h3, h4⟩ := Bool.and_eq_true_iff.mp h
  exact ⟨h1, of_decide_eq_true h2, of_decide_eq_true h3, h4⟩
theorem c_repr (hg : X.A.guards = some []) (hu : X.A.units + 64 < cLine) : CallR X (.builtin "repr") (rC X.K shownD) := by
  intro pins s σ H ws us Q I r h
  obtain ⟨sy, as, d, h, z, q⟩ := h
  match as, z, h with
  | [d1], z, .cons hv .nil =>
    cases r with
    | cons rx rn =>
    cases rn
    by_cases hs : shownOk d1 = true
    · simp only [shownD, if_pos hs] at z
      cases z
      obtain ⟨h1, h2, h3, h4⟩ := shown_at hs
      have h3 := Nat.le_of_lt (small1000 h3)
      obtain ⟨as, rd, ns⟩ := Dt.reads I hv _ rx h4
      have deep : ∀ a u, u = .ref a → Reads s.heap u d1 as → wpAny (model X.prog X.w) X.A (call (.builtin "repr") [u]) (EP X pins σ Q) X.xe s := fun a u ea rd => by
        subst ea
        exact repr_of_reads' rd h1 (fun _ => ns sy) hg (by omega) (fun _ _ e => e) (fun h' t tk hk => ⟨.str _, H, I.kept (t' := tk) hk, ⟨_, rfl⟩, q.now (.str _)⟩) h3
      cases rd with
      | none => exact PySem.P.repr_of_none ⟨.str _, H, I.tok _, ⟨_, rfl⟩, q.now (by rw [PyData.shown_none]; exact .str _)⟩
      | bool b => exact PySem.P.repr_of_bool ⟨.str _, H, I.tok _, ⟨_, rfl⟩, q.now (by rw [PyData.shown_bool]; exact .str _)⟩
      | int i t => exact PySem.P.repr_of_int (of_decide_eq_true h1) ⟨.str _, H, I.tok _, ⟨_, rfl⟩, q.now (by rw [PyData.shown_int]; exact .str _)⟩
      | str x t => exact PySem.P.repr_of_str ⟨.str _, H, I.tok _, ⟨_, rfl⟩, q.now (by rw [PyData.shown_str]; exact .str _)⟩ (by rw [PyData.shown_str] at h3; exact h3)
      | list p1 p2 p3 p4 => exact deep _ _ rfl (.list p1 p2 p3 p4)
      | tuple p1 p2 p3 p4 => exact deep _ _ rfl (.tuple p1 p2 p3 p4)
      | dict p1 p2 p3 p4 p5 => exact deep _ _ rfl (.dict p1 p2 p3 p4 p5)
    · simp only [shownD, if_neg hs] at z
      cases z
/-- {e} in a text: some text of no more than 1000 signs -/
def tFm (te : TE) : TE := fun σ H Q => te σ H fun x H1 => ∃ d, Dt X.K H1 x d ∧ shownOk d = true ∧ (∀ y, d = .str y → y.length ≤ 1000) ∧ Sy H1 ∧ ∀ y : Str, y.length ≤ 1000 → Q (.str y) H1
theorem pe_fm {e : Expr} {te : TE} {pos : Pos} (hg : X.A.guards = some []) (hu : X.A.units + 64 < cLine) (he : PE X e te) : PE X (.FormattedValue e (-1) none pos) (tFm (X := X) te) := by
  refine ⟨fun pins s σ H Q I h => wpAny_FormattedValue_plain (thn (he.run pins s σ H _ I h) fun v s1 hv => ?_)⟩
  obtain ⟨x, H1, J, rx, d, dx, hs, hy, sy, q⟩ := hv
  obtain ⟨h1, h2, h3, h4⟩ := shown_at hs
  obtain ⟨as, rd, ns⟩ := Dt.reads J dx _ rx h4
  have deep : ∀ a u, u = .ref a → Reads s1.heap u d as → wpAny (model X.prog X.w) X.A (formatField u Str.empty) (EP X pins σ Q) X.xe s1 := fun a u ea rd => by
    subst ea
    exact formatField_of_reads rd h1 (fun _ => ns sy) hg (by omega) (fun _ _ e => e) (fun h' t tk hk => ⟨.str _, H1, J.kept (t' := tk) hk, ⟨_, rfl⟩, q _ h3⟩) (Nat.le_of_lt (small1000 h3))
  cases rd with
  | none => exact wpAny_formatField_none ⟨.str _, H1, J.tok _, ⟨_, rfl⟩, q _ (by decide +kernel)⟩
  | bool b => exact wpAny_formatField_bool ⟨.str _, H1, J.tok _, ⟨_, rfl⟩, q _ (by cases b <;> decide +kernel)⟩
  | int i t => exact wpAny_formatField_int (of_decide_eq_true h1) ⟨.str _, H1, J.tok _, ⟨_, rfl⟩, q _ (by rw [PyData.shown_int] at h3; exact h3)⟩
  | str x t => exact wpAny_formatField_str ⟨.str x, H1, J, ⟨_, rfl⟩, q _ (hy _ rfl)⟩ ⟨.str x, H1, J.tok _, ⟨_, rfl⟩, q _ (hy _ rfl)⟩ (Nat.le_of_lt (small1000 (hy _ rfl)))
  | list p1 p2 p3 p4 => exact deep _ _ rfl (.list p1 p2 p3 p4)
  | tuple p1 p2 p3 p4 => exact deep _ _ rfl (.tuple p1 p2 p3 p4)
  | dict p1 p2 p3 p4 p5 => exact deep _ _ rfl (.dict p1 p2 p3 p4 p5)
end
/-! ### defs that are called where nothing is being shown -/
structure FnG (P : Program) (w : World) (K : PySem.W.Frag) (mg : Str → Option Value) (base : Heap) (k : Nat) (f : Addr) (fd : FuncData) (ps : List Str) (sp : Sp) : Prop where
  len : ∀ ws G R Z, sp ws G R Z → ws.length = ps.length
  go : ∀ (A : Around) (outer : List Env) (s : Shared) (H : Hp) (args : Args) (us : List Value) (vs : List V) (Q : VK) (E : XK), Room k A → A.guards = some [] → Env0 P w K mg base A outer s H → BindsTo s fd args (ps.zip us) → Vals vs us → sp vs H Q E →
    codeAny (model P w) A (.call (.ref f) args) (CR CX0 outer P w H s Q E) s
theorem FnG.of {P : Program} {w : World} {K : PySem.W.Frag} {mg : Str → Option Value} {base : Heap} {k : Nat} {f : Addr} {fd : FuncData} {ps : List Str} {sp : Sp} (F : FnOk P w K mg base CX0 k f fd ps sp) : FnG P w K mg base k f fd ps sp :=
  ⟨F.len, fun A o s H args us vs Q E hr _ => F.run A o s H args us vs Q E hr⟩
section
variable {P : Program} {w : World} {K : PySem.W.Frag} {mg : Str → Option Value} {base : Heap}
theorem okG {x qual : Str} {st : Stmt} {f : Addr} {fd : FuncData} {N ps : List Str} {k : Nat} {sp : Sp} (F : Fun K x qual st f fd) (S : FnScope N ps (defScope st)) (len : ∀ vs H Q E, sp vs H Q E → vs.length = ps.length)
    (hbody : ∀ (cdv : Value) (A : Around) (outer : List Env) (s : Shared) (H : Hp) (vs : List V) (Q : VK) (E : XK), Room k (A.deeper (envOfC qual (defScope st) s.heap.objs.size f cdv)) → A.guards = some [] → sp vs H Q E →
      ∃ t, PSs (cxOf CX0 P w K mg base N qual (defScope st) f cdv A outer s H E).nox (defBody st) t ∧ t { nx := fun _ H' => Q .non H', rt := Q } (start N vs) H) : FnG P w K mg base (k + 1) f fd ps sp := by
  refine ⟨len, fun A outer s H args us vs Q E hr hg e0 hb r hsp => ?_⟩
  obtain ⟨c0, d0, kV, doc, pm, an, cdv, ct, s0, rfl, lk, hcd⟩ := F.ex
  have lv := len _ _ _ _ hsp
  have kin : K.In s.heap := e0.mod.kin.keeps fun b o e => (e0.bs b o e).1
  have nol : s.heap.NoLimit := e0.mod.nolimit.keeps fun b o e => (e0.bs b o e).1
  refine codeAny_call_function hr.depth (kin _ _ lk) rfl S.co S.gen rfl (PySem.W.codeRec_of kin hcd) (hb _ _ _ _ ?_)
  refine wpAny_newFunctionEnv_cells S.kind (fun y hy => ?_) fun env he s1 x => ?_
  · rcases S.par y.1 (List.of_mem_zip (show (y.1, y.2) ∈ ps.zip us from hy)).1 with z | z
    · exact Or.inl z
    · exact Or.inr ⟨z, PySem.W.cellsFrom_some _ _ _ (Or.inl z)⟩
  · subst he
    obtain ⟨t, ht, hq⟩ := hbody cdv A outer s H vs Q E (hr.deeper _) hg hsp
    have J0 : Inv (cxOf CX0 P w K mg base N qual (defScope st) f cdv A outer s H E) [] (start N vs) H s1 := inv_start S hr.hd e0 lv r x
    refine ⟨nol.keeps x.toInCall.keep, codeAny_func (wpAny_mono (ht.nox.run [] s1 (start N vs) H _ J0 hq) (fun fl s' hs => ?_) fun e s' z => z)⟩
    cases fl with
    | ret u =>
      obtain ⟨v, σ', H', J, rv, z⟩ := hs
      exact ⟨v, H', J.os, J.bare, J.base, J.hok, rv, z⟩
    | next =>
      obtain ⟨σ', H', J, z⟩ := hs
      exact ⟨V.non, H', J.os, J.bare, J.base, J.hok, rfl, z⟩
    | brk => exact (hs.choose_spec.choose_spec.2 : False).elim
    | cont => exact (hs.choose_spec.choose_spec.2 : False).elim
end
section
variable {X : Cx} {k : Nat} {f : Addr} {fd : FuncData} {ps : List Str} {sp : Sp} {x : Str} {p pos : Pos} {e : Expr} {es : List Expr} {t : TA}
theorem run_G {pins : List (Addr × Obj)} {σ : L2.St} {H : Hp} {s : Shared} {Q : VK} {us : List Value} {vs : List V} (F : FnG X.prog X.w X.K X.mg X.base k f fd ps sp) (hr : Room k X.A) (hG : X.A.guards = some []) (hb : Binds X.K fd ps [])
    (I : Inv X pins σ H s) (r : Vals vs us) (h : sp vs H Q E0) : wpAny (model X.prog X.w) X.A (call (.ref f) us) (EP X pins σ Q) X.xe s := by
  have nn : us ++ [] = us := List.append_nil us
  have lv : us.length = ps.length := r.length.symm.trans (F.len _ _ _ _ h)
  have bb := hb s us I.kIn (by rw [nn]; exact lv)
  rw [nn] at bb
  refine wpAny_call (codeAny_mono (F.go X.A X.stack s H ⟨us, []⟩ us vs Q E0 hr hG I.env0 bb r h) fun z s' hq => ?_)
  cases z with
  | error _ => exact (show False from hq).elim
  | ok fl => cases fl <;> first | exact I.after hq | exact (show False from hq).elim
theorem pe_G (F : FnG X.prog X.w X.K X.mg X.base k f fd ps sp) (hr : Room k X.A) (hG : X.A.guards = some []) (hg : Gl X x) (hm : X.mg x = some (.ref f)) (hk : PySem.W.keepIn X.K (.ref f) = true) (hb : Binds X.K fd ps [])
    (ha : PA X (e :: es) t) (hdb : (x == ("__debug__" : Str)) = false := by decide) (he : starEach (e :: es) X.env = (false, eval e X.env) :: starEach es X.env := by rfl)
    (hpl : (backTo pos (starEach es X.env)).any (·.1) = false := by rfl) : PE X (.Call (.Name x p) (e :: es) [] pos) (fun σ H Q => t σ H fun vs H1 => sp vs H1 Q E0) := by
  refine ⟨fun pins s σ H Q I h => wpAny_Call_Name_kw (ld_glob I hg hm ?_ hdb)⟩
  exact PySem.W.callWith_K (h₀ := X.base) I.ok.mod.kin hk (thn (ha.run pos pins s σ H _ I h) fun us s1 ⟨vs, H1, I1, r, q⟩ => ⟨I1.kIn, run_G F hr hG hb I1 r q⟩) he hpl
variable {gl : En → Option (List D)} {n : Nat} {g : List D → Option D}
theorem p_G (F : FnG X.prog X.w X.K X.mg X.base k f fd ps (spP X.K n g)) (hr : Room k X.A) (hG : X.A.guards = some []) (hg : Gl X x) (hm : X.mg x = some (.ref f)) (hk : PySem.W.keepIn X.K (.ref f) = true) (hb : Binds X.K fd ps [])
    (ha : PA X (e :: es) (tL X.K gl)) (hdb : (x == ("__debug__" : Str)) = false := by decide) (he : starEach (e :: es) X.env = (false, eval e X.env) :: starEach es X.env := by rfl) (hpl : (backTo pos (starEach es X.env)).any (·.1) = false := by rfl) :
    PE X (.Call (.Name x p) (e :: es) [] pos) (tP X.K fun δ => (gl δ).bind fun r => if r.length = n then g r else none) :=
  imp (pe_G F hr hG hg hm hk hb ha hdb he hpl) fun σ H Q ⟨δ, d, er, z, q⟩ => by
    obtain ⟨r, e1, z⟩ := bnd z
    by_cases hn : r.length = n
    · rw [if_pos hn] at z
      exact ⟨δ, r, er, e1, fun xs H1 s1 dxs => ⟨er.sy.on s1, r, d, dxs, hn, z, q.on s1⟩⟩
    · rw [if_neg hn] at z; cases z
/-- f(k = v, ..): keywords alone; perm: the keywords' values in the parameters' order -/
theorem p_K {kws : List Keyword} {ks : List Str} {perm : List D → Option (List D)} {wp : List V → List V} {up : List Value → List Value} (F : FnOk X.prog X.w X.K X.mg X.base CX0 k f fd ps (spP X.K n g)) (hr : Room k X.A) (hg : Gl X x) (hm : X.mg x = some (.ref f)) (hk : PySem.W.keepIn X.K (.ref f) = true)
    (hb : ∀ (s : Shared) (ws : List Value), X.K.In s.heap → ws.length = ks.length → BindsTo s fd ⟨[], ks.zip ws⟩ (ps.zip (up ws))) (hv : ∀ {vs : List V} {ws : List Value}, Vals vs ws → vs.length = ks.length → Vals (wp vs) (up ws))
    (hd : ∀ {H : Hp} {vs : List V} {ds es : List D}, DtAll X.K H vs ds → perm ds = some es → vs.length = ks.length ∧ DtAll X.K H (wp vs) es)
    (hkw : PK X kws (tL X.K gl)) (hall : (backToKw pos (keywordEach kws X.env)).all (·.1.isSome) = true := by rfl) (hks : (backToKw pos (keywordEach kws X.env)).filterMap (·.1) = ks := by rfl)
    (hdb : (x == ("__debug__" : Str)) = false := by decide) (hpl : ((backTo pos (starEach [] X.env)).any (·.1) || (backToKw pos (keywordEach kws X.env)).any (·.1.isNone)) = false := by rfl) :
    PE X (.Call (.Name x p) [] kws pos) (tP X.K fun δ => (gl δ).bind fun r => (perm r).bind fun r' => if r'.length = n then g r' else none) := by
  refine ⟨fun pins s σ H Q I h => wpAny_Call_Name_kw (ld_glob I hg hm ?_ hdb)⟩
  obtain ⟨δ, d, er, z, q⟩ := h
  obtain ⟨r, e1, z⟩ := bnd z
  obtain ⟨r', e2, z⟩ := bnd z
  by_cases hn : r'.length = n
  · rw [if_pos hn] at z
    refine PySem.W.callWith_KW0 (h₀ := X.base) I.ok.mod.kin hk hall (thn (hkw.run pos pins s σ H (fun vs H1 => Same H H1 ∧ DtAll X.K H1 vs r) I ⟨δ, r, er, e1, fun vs H1 s1 dv => ⟨s1, dv⟩⟩) fun ws s2 ⟨vs, H2, I2, rz, s1, dv⟩ => ⟨I2.kIn, ?_⟩) hpl
    rw [hks]
    obtain ⟨lv, dw⟩ := hd dv e2
    show wpAny (model X.prog X.w) X.A (call (.ref f) [] (ks.zip ws)) (EP X pins σ Q) X.xe s2
    refine wpAny_call (codeAny_mono (F.run X.A X.stack s2 H2 ⟨[], ks.zip ws⟩ (up ws) (wp vs) Q E0 hr I2.env0 (hb s2 ws I2.kIn (rz.length.symm.trans lv)) (hv rz lv) ⟨er.sy.on s1, r', d, dw, hn, z, q.on s1⟩) fun y s' hq => ?_)
    cases y with
    | error _ => exact (show False from hq).elim
    | ok fl => cases fl <;> first | exact I2.after hq | exact (show False from hq).elim
  · rw [if_neg hn] at z; cases z
end
end Wn

namespace Wn
open PySem PySem.Spec PyProof.Rows L2
/-! ### for over a list or a tuple -/
def loopO (i : Nat) (gb : En → Option Out) : List D → En → Option Out
  | [], δ => some (.nx δ)
  | d :: r, δ => (gb (δ.set i (some d))).bind fun o => match o with
    | .nx δ' => loopO i gb r δ'
    | .rt x => some (.rt x)
section
variable {X : Cx} {pos : Pos} {ga : En → Option D} {gb : En → Option Out} {iter : Expr} {body : List Stmt} {x : Str} {tp : Pos} {i : Nat}
/-- the loop's body from the j-th item on -/
theorem loop_run {J : It} {K : PySem.W.Frag} {E : Ends} {vs : List V} {G : Hp → Prop} (wk : Walk J vs.length G (YAt vs)) {H0 : Hp} {ds : List D} {o : Out} (hG : ∀ H, Same H0 H → G H) (all : DtAll K H0 vs ds) (h0 : i ≠ 0) {δ0 : En} {σ0 : L2.St} (ho : o.wish K H0 E σ0[0]?) (er : Er K H0 σ0 δ0) (hl : loopO i gb ds δ0 = some o) :
    ∃ W : Nat → Nat → L2.St → Hp → Prop, (∃ m, W 0 m σ0 H0) ∧ ∀ j m σ H, W j m σ H →
      (J.stop j H ∧ E.nx σ H) ∨ (J.go j H ∧ ∃ N : L2.St → Hp → Prop, (∀ σ' H', N σ' H' → ∃ m', m' < m ∧ W (j + 1) m' σ' H') ∧ ∀ x H', J.yld j H x H' → gName i x σ H' fun σ2 H2 => tS K gb { E with nx := N, ct := N, bk := E.nx } σ2 H2) := by
  have inv : ∀ (j : Nat) (d : D) (δ : En), loopO i gb (ds.drop j) δ = some o → ds[j]? = some d → ∃ o', gb (δ.set i (some d)) = some o' ∧ ((∃ δ', o' = .nx δ' ∧ loopO i gb (ds.drop (j + 1)) δ' = some o) ∨ ∃ y, o' = .rt y ∧ o = .rt y) := fun j d δ h e => by
    obtain ⟨hj, e'⟩ := List.getElem?_eq_some_iff.mp e
    rw [List.drop_eq_getElem_cons hj, e'] at h
    obtain ⟨o', e1, h⟩ := bnd (show ((gb (δ.set i (some d))).bind fun o => match o with | .nx δ' => loopO i gb (ds.drop (j + 1)) δ' | .rt x => some (.rt x)) = some o from h)
    refine ⟨o', e1, ?_⟩
    cases o' with
    | nx δ' => exact .inl ⟨δ', rfl, h⟩
    | rt y => cases h; exact .inr ⟨y, rfl, rfl⟩
  refine for_it wk (D := E) (fun j σ H => Same H0 H ∧ σ[0]? = σ0[0]? ∧ ∃ δ, Er K H σ δ ∧ loopO i gb (ds.drop j) δ = some o) ⟨Same.refl _, rfl, δ0, er, hl⟩ (fun _ _ _ _ p => hG _ p.1) (fun j v σ H H' hj p y => ?_) fun σ H p => ?_
  · obtain ⟨s0, z0, δ, er, h⟩ := p
    obtain ⟨rfl, ev⟩ := y
    have hjd : j < ds.length := by rw [← all.len]; exact hj
    have ed : ds[j]? = some ds[j] := List.getElem?_eq_getElem hjd
    obtain ⟨v', ev', dv⟩ := all.at ed
    rw [ev] at ev'
    cases ev'
    obtain ⟨o', e1, w⟩ := inv j _ δ h ed
    refine ⟨δ.set i (some ds[j]), o', er.set i (dv.on s0), e1, ?_⟩
    rcases w with ⟨δ', rfl, h'⟩ | ⟨y, rfl, rfl⟩
    · exact fun σ2 H2 s2 e2 z2 => ⟨s0.trans s2, by rw [z2, List.getElem?_set_ne h0]; exact z0, δ', e2, h'⟩
    · exact Gives.on ho s0
  · obtain ⟨s0, z0, δ, er, h⟩ := p
    rw [List.drop_eq_nil_of_le (by rw [all.len]; exact Nat.le_refl _)] at h
    cases h
    exact ho σ H s0 er z0
theorem s_for (hp : PassesOwn (model X.prog X.w) X.A X.env X.xe) (hc : X.calm = true) (hi : PE X iter (tP X.K ga)) (hN : X.N.Nodup) (hx : X.N[i]? = some x) (hl : Loc X.env.scope x) (hb : PSs X body (tS X.K gb)) (hs : ∀ x, foldedSetIterable iter X.env x = pure x := by intro _; rfl)
    (hf : X.fn x = true ∨ X.env.scope.names.lookup x = some .local := by first | exact .inl rfl | exact .inr rfl | assumption) (h0 : i ≠ 0 := by decide) : PS X (.For (.Name x tp) iter body [] pos) (tS X.K fun δ => (ga δ).bind fun d => match d with
      | .list ds => loopO i gb ds δ
      | _ => none) :=
  impS (ps_for hp hc (pi_list hi) (pg_name hN hx hl hf) hb hs) fun E σ H ⟨δ, o, er, z, q⟩ => by
    obtain ⟨d, e1, z⟩ := bnd z
    refine ⟨δ, d, er, e1, fun v H1 s1 dv => ?_⟩
    cases d with
    | list ds =>
      cases dv with
      | lst s all =>
        exact ⟨_, rfl, ⟨_, SqL.of s⟩, loop_run (K := X.K) walk_list (fun H2 s2 => s2.seq (SqL.of s)) all h0 (wish_on q s1) (er.on s1) z⟩
    | _ => cases z
theorem s_forT (hp : PassesOwn (model X.prog X.w) X.A X.env X.xe) (hc : X.calm = true) (hi : PE X iter (tP X.K ga)) (hN : X.N.Nodup) (hx : X.N[i]? = some x) (hl : Loc X.env.scope x) (hb : PSs X body (tS X.K gb)) (hs : ∀ x, foldedSetIterable iter X.env x = pure x := by intro _; rfl)
    (hf : X.fn x = true ∨ X.env.scope.names.lookup x = some .local := by first | exact .inl rfl | exact .inr rfl | assumption) (h0 : i ≠ 0 := by decide) : PS X (.For (.Name x tp) iter body [] pos) (tS X.K fun δ => (ga δ).bind fun d => match d with
      | .tuple ds => loopO i gb ds δ
      | _ => none) :=
  impS (ps_for hp hc (pi_tup hi) (pg_name hN hx hl hf) hb hs) fun E σ H ⟨δ, o, er, z, q⟩ => by
    obtain ⟨d, e1, z⟩ := bnd z
    refine ⟨δ, d, er, e1, fun v H1 s1 dv => ?_⟩
    cases d with
    | tuple ds =>
      cases dv with
      | tup s all =>
        exact ⟨_, rfl, ⟨_, s⟩, loop_run (K := X.K) walk_tup (fun H2 s2 => seqT s2 s) all h0 (wish_on q s1) (er.on s1) z⟩
    | _ => cases z
end
/-! ### comprehensions whose items are flat -/
/-- the slots of the comprehension's own names are forgotten -/
def wipeD (δ : En) : List Nat → En
  | [] => δ
  | v :: vs => (wipeD δ vs).set v none
theorem er_wipe {K : PySem.W.Frag} {H : Hp} {σ : L2.St} {δ : En} (h : Er K H σ δ) : ∀ vs : List Nat, Er K H (wipe σ vs) (wipeD δ vs)
  | [] => h
  | v :: vs => by
    have ih := er_wipe h vs
    refine ⟨by show ((wipe σ vs).set v none).length = ((wipeD δ vs).set v none).length; simpa using ih.len, fun i d e => ?_, ih.sy⟩
    have e : ((wipeD δ vs).set v none)[i]? = some (some d) := e
    by_cases hv : i = v
    · subst hv
      by_cases hl : i < (wipeD δ vs).length
      · rw [List.getElem?_set_self hl] at e; cases e
      · rw [List.getElem?_eq_none (by simpa using hl)] at e; cases e
    · rw [List.getElem?_set_ne (Ne.symm hv)] at e
      obtain ⟨u, a, b⟩ := ih.val i d e
      exact ⟨u, by show ((wipe σ vs).set v none)[i]? = _; rw [List.getElem?_set_ne (Ne.symm hv)]; exact a, b⟩
/-- items kept: test, element -/
def compO (gt : En → Option Bool) (ge : En → Option D) : List En → Option (List D)
  | [] => some []
  | δ :: r => (gt δ).bind fun k => if k then (ge δ).bind fun d => (flatD d).bind fun _ => (compO gt ge r).bind fun ds => some (d :: ds) else compO gt ge r
theorem compO_drop {gt : En → Option Bool} {ge : En → Option D} {δs : List En} {j : Nat} {δ : En} {rest : List D} (h : compO gt ge (δs.drop j) = some rest) (e : δs[j]? = some δ) :
    ∃ k, gt δ = some k ∧ ((k = true ∧ ∃ d v r, ge δ = some d ∧ flatD d = some v ∧ compO gt ge (δs.drop (j + 1)) = some r ∧ rest = d :: r) ∨ (k = false ∧ compO gt ge (δs.drop (j + 1)) = some rest)) := by
  obtain ⟨hj, e'⟩ := List.getElem?_eq_some_iff.mp e
  rw [List.drop_eq_getElem_cons hj, e'] at h
  obtain ⟨k, e1, h⟩ := bnd (show ((gt δ).bind fun k => if k then (ge δ).bind fun d => (flatD d).bind fun _ => (compO gt ge (δs.drop (j + 1))).bind fun ds => some (d :: ds) else compO gt ge (δs.drop (j + 1))) = some rest from h)
  refine ⟨k, e1, ?_⟩
  cases k with
  | true =>
    obtain ⟨d, e2, h⟩ := bnd (show ((ge δ).bind fun d => (flatD d).bind fun _ => (compO gt ge (δs.drop (j + 1))).bind fun ds => some (d :: ds)) = some rest from h)
    obtain ⟨v, e3, h⟩ := bnd h
    obtain ⟨r, e4, h⟩ := bnd h
    cases h
    exact .inl ⟨rfl, d, v, r, e2, e3, e4, rfl⟩
  | false => exact .inr ⟨rfl, h⟩
theorem flats_snoc : ∀ {ds : List D} {vs : List V} {d : D} {v : V}, flats ds = some vs → flatD d = some v → flats (ds ++ [d]) = some (vs ++ [v])
  | [], _, d, v, h, g => by
    cases h
    show ((flatD d).bind fun v => (flats []).bind fun vs => some (v :: vs)) = _
    rw [g]
    rfl
  | x :: r, _, d, v, h, g => by
    obtain ⟨w, e1, h⟩ := bnd (show ((flatD x).bind fun v => (flats r).bind fun vs => some (v :: vs)) = some _ from h)
    obtain ⟨ws, e2, h⟩ := bnd h
    cases h
    show ((flatD x).bind fun v => (flats (r ++ [d])).bind fun vs => some (v :: vs)) = _
    rw [e1, flats_snoc e2 g]
    rfl
theorem comp_run {K : PySem.W.Frag} {J : It} {n : Nat} {G : Hp → Prop} {Y : Nat → Hp → V → Hp → Prop} (wk : Walk J n G Y) {g : TG} {gt : En → Option Bool} {ge : En → Option D} {vs : List Nat} {σ : L2.St} {H1 : Hp} {L : Addr} {Q : VK} {δs : List En} {full : List D}
    (hn : δs.length = n) (hfull : n ≤ 1000) (hL : H1 L = none) (hG : ∀ H, Same H1 H → G H) (hc : compO gt ge δs = some full) (q : Gives K H1 (.list full) Q)
    (hstep : ∀ i v H H', i < n → Same H1 H → Y i H v H' → Same H H' ∧ ∃ δ, δs[i]? = some δ ∧ ∀ R : L2.St → Hp → Prop, (∀ σ2 H2, Same H' H2 → Er K H2 σ2 δ → wipe σ2 vs = wipe σ vs → R σ2 H2) → g v (wipe σ vs) H' R) :
    ∃ W : Nat → Nat → Hp → Prop, (∃ m, W 0 m (upd H1 L (.lst []))) ∧ ∀ i m H, W i m H →
      (J.stop i H ∧ Q (.ref L) H) ∨ (J.go i H ∧ ∃ Nx : Hp → Prop, (∀ H', Nx H' → ∃ m', m' < m ∧ W (i + 1) m' H') ∧ ∀ x H', J.yld i H x H' → g x (wipe σ vs) H' fun σ2 H2 => wipe σ2 vs = wipe σ vs ∧ tQ K gt σ2 H2 fun b H3 =>
        if b = true then tP K ge σ2 H3 fun y H4 => ∃ acc, H4 L = some (.lst acc) ∧ acc.length < sizeLine ∧ Nx (upd H4 L (.lst (acc ++ [y]))) else Nx H3) := by
  refine lc_it wk (fun i H => Same H1 H ∧ ∃ pre acc rest, H L = some (.lst acc) ∧ flats pre = some acc ∧ pre.length ≤ i ∧ compO gt ge (δs.drop i) = some rest ∧ pre ++ rest = full)
    ⟨same_new hL, [], [], full, upd_same, rfl, Nat.le_refl _, hc, rfl⟩ (fun i H _ p => hG H p.1) (fun i v H H' hi p y => ?_) fun H p => ?_
  · obtain ⟨s0, pre, acc, rest, hA, hF, hP, hC, hE⟩ := p
    obtain ⟨s1, δ, eδ, hg⟩ := hstep i v H H' hi s0 y
    refine hg _ fun σ2 H2 s2 er ew => ⟨ew, ?_⟩
    obtain ⟨k, ek, w⟩ := compO_drop hC eδ
    refine ⟨δ, k, er, ek, fun H3 s3 => ?_⟩
    have s03 : Same H H3 := s1.trans (s2.trans s3)
    rcases w with ⟨rfl, d, u, r, e1, e2, e3, rfl⟩ | ⟨rfl, hC'⟩
    · refine iteT ⟨δ, d, er.on s3, e1, fun z H4 s4 dz => ?_⟩
      have ez := flatD_is e2 dz
      subst ez
      have hA4 : H4 L = some (.lst acc) := s4 _ _ (s03 _ _ hA)
      have la : acc.length ≤ i := by
        have := (flats_dt hF K H).len
        omega
      refine ⟨acc, hA4, small1000 (by omega), fun b o e => ?_, pre ++ [d], acc ++ [z], r, upd_same, flats_snoc hF e2, ?_, e3, ?_⟩
      · rw [upd_ne (ne_of_none e hL)]
        exact s4 _ _ (s03 _ _ (s0 _ _ e))
      · rw [List.length_append, List.length_singleton]
        omega
      · rw [← hE, List.append_assoc]; rfl
    · exact iteF ⟨s0.trans s03, pre, acc, rest, s03 _ _ hA, hF, by omega, hC', hE⟩
  · obtain ⟨s0, pre, acc, rest, hA, hF, hP, hC, hE⟩ := p
    rw [List.drop_eq_nil_of_le (by omega)] at hC
    cases hC
    rw [List.append_nil] at hE
    subst hE
    exact q _ _ s0 (.lst hA (flats_dt hF K H))
def yesQ : En → Option Bool := fun _ => some true
section
variable {X : Cx} {pos tp : Pos} {ga gb ge : En → Option D} {gt : En → Option Bool} {elt iter : Expr} {ifs : List Expr} {scope : Scope} {x y : Str} {i j : Nat}
/-- a test's judgement in a comprehension -/
theorem ts_nil : PTs X [] (tQ X.K yesQ) := ⟨fun pins s σ H Q I ⟨δ, b, er, z, q⟩ => pts_nil.run pins s σ H Q I (by cases z; exact q H (Same.refl H))⟩
theorem wipe1 {σ : L2.St} {v : V} : wipe ((wipe σ [i]).set i (some v)) [i] = wipe σ [i] := by
  show (((σ.set i none).set i (some v)).set i none) = σ.set i none
  rw [List.set_set, List.set_set]
def strEs (i : Nat) (δ : En) : D → Option (List En)
  | .str z => if z.cps.size ≤ 1000 then some (z.cps.toList.map fun c => (wipeD δ [i]).set i (some (.str ⟨#[c]⟩))) else none
  | _ => none
theorem p_lcS (hc : X.calm = true) (hN : X.N.Nodup) (hi : PE X iter (tP X.K ga)) (ok : BlkOk X.N X.env.scope scope [(x, i)])
    (hg : ∀ (s : Shared) (H : Hp) (C : Addr) (cl : List (Str × Addr)) (fp : List Addr), PG (X.blk s H scope (compEnvC scope cl C X.env) fp) (.Name x tp) (gName i))
    (ht : ∀ (s : Shared) (H : Hp) (C : Addr) (cl : List (Str × Addr)) (fp : List Addr), PTs (X.blk s H scope (compEnvC scope cl C X.env) fp) ifs (tQ X.K gt))
    (he : ∀ (s : Shared) (H : Hp) (C : Addr) (cl : List (Str × Addr)) (fp : List Addr), PE (X.blk s H scope (compEnvC scope cl C X.env) fp) elt (tP X.K ge)) (hs : ∀ x, foldedSetIterable iter X.env x = pure x := by intro _; rfl) :
    PE X (.ListComp elt [⟨.Name x tp, iter, ifs, 0⟩] scope pos) (tP X.K fun δ => (ga δ).bind fun d => (strEs i δ d).bind fun δs => (compO gt ge δs).bind fun ds => some (.list ds)) :=
  imp (pe_lc hc hN (pi_str hi) ok hg ht he hs) fun σ H Q ⟨δ, d, er, z, q⟩ => by
    obtain ⟨d1, e1, z⟩ := bnd z
    obtain ⟨δs, e2, z⟩ := bnd z
    obtain ⟨full, e3, z⟩ := bnd z
    cases z
    cases d1 <;> first | (cases e2; done) | skip
    rename_i w
    by_cases hw : w.cps.size ≤ 1000
    · simp only [strEs, if_pos hw] at e2
      cases e2
      refine ⟨δ, _, er, e1, fun v H1 s1 dv => ?_⟩
      cases dv
      refine ⟨w, rfl, fun L hL => ?_⟩
      refine comp_run (K := X.K) walk_str (by rw [List.length_map, Array.length_toList]) hw hL (fun _ _ => trivial) e3 (q.on s1) fun k v H2 H' hk s2 yy => ?_
      obtain ⟨rfl, c, ec, rfl⟩ := yy
      refine ⟨Same.refl _, (wipeD δ [i]).set i (some (.str ⟨#[c]⟩)), ?_, fun R hR => ?_⟩
      · rw [List.getElem?_map, Array.getElem?_toList, ec]; rfl
      · exact hR _ _ (Same.refl _) ((er_wipe (er.on (s1.trans s2)) [i]).set i (.str _)) wipe1
    · simp only [strEs, if_neg hw] at e2; cases e2
/-- zip of two tuples into two names -/
def zipEs (i j : Nat) (δ : En) : List D → List D → List En
  | a :: r, b :: t => (((wipeD δ [i, j]).set i (some a)).set j (some b)) :: zipEs i j δ r t
  | _, _ => []
theorem zipEs_len {δ : En} : ∀ (xs ys : List D), (zipEs i j δ xs ys).length = min xs.length ys.length
  | [], _ => by simp [zipEs]
  | _ :: _, [] => by simp [zipEs]
  | a :: r, b :: t => by
    show (zipEs i j δ r t).length + 1 = _
    rw [zipEs_len r t, List.length_cons, List.length_cons]
    omega
theorem zipEs_at {δ : En} : ∀ {xs ys : List D} {k : Nat} {a b : D}, xs[k]? = some a → ys[k]? = some b → (zipEs i j δ xs ys)[k]? = some (((wipeD δ [i, j]).set i (some a)).set j (some b))
  | [], _, _, _, _, no, _ => by simp at no
  | _ :: _, [], _, _, _, _, no => by simp at no
  | a :: r, b :: t, 0, _, _, h, g => by
    simp at h g
    subst h; subst g
    rfl
  | a :: r, b :: t, k + 1, _, _, h, g => by
    show (zipEs i j δ r t)[k]? = _
    exact zipEs_at (by simpa using h) (by simpa using g)
theorem wipe2 {σ : L2.St} {v w : V} (h : i ≠ j) : wipe (((wipe σ [i, j]).set i (some v)).set j (some w)) [i, j] = wipe σ [i, j] := by
  have c : ∀ (l : L2.St) (a b : Option V), (l.set j a).set i b = (l.set i b).set j a := fun l a b => List.set_comm _ _ h.symm
  show (((((((σ.set j none).set i none).set i (some v)).set j (some w)).set j none).set i none)) = ((σ.set j none).set i none)
  simp only [List.set_set, c]
def zipC (gt : En → Option Bool) (ge : En → Option D) (i j : Nat) (δ : En) : D → D → Option D
  | .tuple xs, .tuple ys => if xs.length ≤ 1000 then (compO gt ge (zipEs i j δ xs ys)).bind fun ds => some (.list ds) else none
  | _, _ => none
theorem zipC_some {gt : En → Option Bool} {ge : En → Option D} {δ : En} {d e z : D} (h : zipC gt ge i j δ d e = some z) : ∃ xs ys ds, d = .tuple xs ∧ e = .tuple ys ∧ xs.length ≤ 1000 ∧ compO gt ge (zipEs i j δ xs ys) = some ds ∧ z = .list ds := by
  cases d <;> first | (cases h; done) | skip
  cases e <;> first | (cases h; done) | skip
  rename_i xs ys
  by_cases hw : xs.length ≤ 1000
  · simp only [zipC, if_pos hw] at h
    obtain ⟨ds, e1, h⟩ := bnd h
    cases h
    exact ⟨xs, ys, ds, rfl, rfl, hw, e1, rfl⟩
  · simp only [zipC, if_neg hw] at h
    cases h
theorem p_lcZ {p p1 p2 ptp : Pos} {kk : Nat} {a b : Expr} (hij : i ≠ j) (hc : X.calm = true) (hN : X.N.Nodup) (hgz : Gl X "zip") (hmz : X.mg "zip" = none) (ha : PE X a (tP X.K ga)) (hb : PE X b (tP X.K gb)) (ok : BlkOk X.N X.env.scope scope [(x, i), (y, j)])
    (hg : ∀ (s : Shared) (H : Hp) (C : Addr) (cl : List (Str × Addr)) (fp : List Addr), PG (X.blk s H scope (compEnvC scope cl C X.env) fp) (.Tuple [.Name x p1, .Name y p2] kk ptp) (gTup X.K 2 (gCons (gName i) (gCons (gName j) gNil))))
    (ht : ∀ (s : Shared) (H : Hp) (C : Addr) (cl : List (Str × Addr)) (fp : List Addr), PTs (X.blk s H scope (compEnvC scope cl C X.env) fp) ifs (tQ X.K gt))
    (he : ∀ (s : Shared) (H : Hp) (C : Addr) (cl : List (Str × Addr)) (fp : List Addr), PE (X.blk s H scope (compEnvC scope cl C X.env) fp) elt (tP X.K ge)) (hs : ∀ x, foldedSetIterable (.Call (.Name "zip" p) [a, b] [] tp) X.env x = pure x := by intro _; rfl)
    (h1 : starEach [a, b] X.env = (false, eval a X.env) :: starEach [b] X.env := by rfl) (h2 : starEach [b] X.env = (false, eval b X.env) :: starEach [] X.env := by rfl) (hpl : (backTo tp (starEach [b] X.env)).any (·.1) = false := by rfl) :
    PE X (.ListComp elt [⟨.Tuple [.Name x p1, .Name y p2] kk ptp, .Call (.Name "zip" p) [a, b] [] tp, ifs, 0⟩] scope pos) (tP X.K fun δ => (ga δ).bind fun d => (gb δ).bind fun e => zipC gt ge i j δ d e) :=
  imp (pe_lc hc hN (RZ.pi_zipA hgz hmz (l_cons ha (l_cons hb l_nil h2) h1) h1 hpl) ok hg ht he hs) fun σ H Q ⟨δ, d, er, z, q⟩ => by
    obtain ⟨d1, e1, z⟩ := bnd z
    obtain ⟨d2, e2, z⟩ := bnd z
    obtain ⟨xs, ys, full, rfl, rfl, hw, e3, rfl⟩ := zipC_some z
    · skip
      refine ⟨δ, [.tuple xs, .tuple ys], er, ?_, fun vs H1 s1 dvs => ?_⟩
      · show ((ga δ).bind fun x => ((gb δ).bind fun x => (some []).bind fun r => some (x :: r)).bind fun r => some (x :: r)) = _
        rw [e1, e2]
        rfl
      · match vs, dvs with
        | _, .cons (.tup (vs := v1) (a := A) t1 a1) (.cons (.tup (vs := v2) (a := B) t2 a2) .nil) =>
        refine ⟨A, B, v1, v2, rfl, .inr ⟨t1, t2, fun L hL => ?_⟩⟩
        have wk : Walk (RZ.ItzT X.K A B) (min v1.length v2.length) (fun H => SqT X.K H A v1 ∧ SqT X.K H B v2) (YPair (fun i => v1[i]?) (fun i => v2[i]?)) := by
          refine ⟨fun i _ hi q => ?_, fun _ q => ⟨v1, v2, q.1, q.2, by omega⟩, fun i H v H' _ q y => ?_⟩
          · have g1 : i < v1.length := by omega
            have g2 : i < v2.length := by omega
            exact ⟨v1, v2, v1[i], v2[i], q.1, q.2, by simp [g1], by simp [g2]⟩
          · obtain ⟨T, x, z, g1, g2, g3, g4, g5⟩ := y
            exact ⟨T, x, z, g1, g2, g3, g4 v1 q.1, g5 v2 q.2⟩
        refine comp_run (K := X.K) wk (by rw [zipEs_len, a1.len, a2.len]) (by have := a1.len; omega) hL (fun H2 s2 => ⟨seqT s2 t1, seqT s2 t2⟩) e3 (q.on s1) fun k v H2 H' hk s2 yy => ?_
        obtain ⟨T, x1, x2, rfl, nT, rfl, g1, g2⟩ := yy
        have k1 : k < xs.length := by have := a1.len; omega
        have k2 : k < ys.length := by have := a2.len; omega
        obtain ⟨w1, u1, r1⟩ := a1.at (List.getElem?_eq_getElem k1)
        obtain ⟨w2, u2, r2⟩ := a2.at (List.getElem?_eq_getElem k2)
        have f1 : w1 = x1 := Option.some.inj (u1.symm.trans g1)
        have f2 : w2 = x2 := Option.some.inj (u2.symm.trans g2)
        subst f1
        subst f2
        have sT : Same H2 (upd H2 T (.tup [w1, w2])) := same_new nT
        refine ⟨sT, _, zipEs_at (List.getElem?_eq_getElem k1) (List.getElem?_eq_getElem k2), fun R hR => ?_⟩
        refine ⟨T, [w1, w2], rfl, SqT.of upd_same, rfl, w1, [w2], rfl, w2, [], rfl, rfl, ?_⟩
        refine hR _ _ (Same.refl _) ?_ (wipe2 hij)
        exact ((er_wipe (er.on (s1.trans (s2.trans sT))) [i, j]).set i (r1.on (s2.trans sT))).set j (r2.on (s2.trans sT))
/-- [..].index(e), flat items -/
def ixOf (v : V) : List V → Nat → Option Nat
  | [], _ => none
  | w :: r, n => if eqV w v then some n else ixOf v r (n + 1)
theorem ixOf_some {v : V} : ∀ {l : List V} {n m : Nat}, ixOf v l n = some m → ∃ j z, m = n + j ∧ l[j]? = some z ∧ eqV z v = true ∧ ∀ k z', k < j → l[k]? = some z' → eqV z' v = false
  | [], _, _, h => by cases h
  | w :: r, n, m, h => by
    unfold ixOf at h
    by_cases hw : eqV w v = true
    · rw [if_pos hw] at h
      cases h
      exact ⟨0, w, rfl, rfl, hw, fun k z' hk => absurd hk (Nat.not_lt_zero _)⟩
    · rw [if_neg hw] at h
      obtain ⟨j, z, e, g1, g2, g3⟩ := ixOf_some h
      refine ⟨j + 1, z, by omega, by simpa using g1, g2, fun k z' hk ek => ?_⟩
      cases k with
      | zero =>
        simp at ek
        subst ek
        cases q : eqV w v
        · rfl
        · exact absurd q hw
      | succ k => exact g3 k z' (by omega) (by simpa using ek)
def indexD (x : D) : List D → Option D
  | [y] => match x with
    | .list ds => (flats ds).bind fun vs => (flatD y).bind fun v => (ixOf v vs 0).bind fun n => some (.int (n : Nat))
    | _ => none
  | _ => none
theorem indexD_some : ∀ {x : D} {r : List D} {d : D}, indexD x r = some d → ∃ ds y vs u n, x = .list ds ∧ r = [y] ∧ flats ds = some vs ∧ flatD y = some u ∧ ixOf u vs 0 = some n ∧ d = .int (n : Nat)
  | .list ds, [y], d, h => by
    obtain ⟨vs, e3, z⟩ := bnd (show ((flats ds).bind fun vs => (flatD y).bind fun v => (ixOf v vs 0).bind fun n => some (.int (n : Nat))) = some d from h)
    obtain ⟨u, e4, z⟩ := bnd z
    obtain ⟨n, e5, z⟩ := bnd z
    cases z
    exact ⟨ds, y, vs, u, n, rfl, rfl, e3, e4, e5, rfl⟩
  | .none, [y], d, h => by cases h
  | .bool _, [y], d, h => by cases h
  | .int _, [y], d, h => by cases h
  | .str _, [y], d, h => by cases h
  | .tuple _, [y], d, h => by cases h
  | .dict _, [y], d, h => by cases h
  | _, [], d, h => by cases h
  | _, _ :: _ :: _, d, h => by cases h
theorem p_index {o e : Expr} {apos : Pos} {ga : En → Option D} {gl : En → Option (List D)} (ho : PE X o (tP X.K ga)) (ha : PA X [e] (tL X.K gl)) (hbase : attributeBase o "index" X.env (eval o X.env) = eval o X.env := by rfl)
    (hfew : ((backTo pos (starEach [e] X.env)).all (fun x => !x.1) && (backToKw pos (keywordEach [] X.env)).all (fun x => x.1.isSome) && decide ([e].length + ([] : List Keyword).length + (if ([] : List Keyword).isEmpty then 0 else 1) < 30)) = true := by rfl)
    (hline : (apos.endLine == pos.line) = true := by rfl) (hs : starEach [e] X.env = (false, eval e X.env) :: starEach [] X.env := by rfl) (hplain : (backTo pos (starEach [] X.env)).any (·.1) = false := by rfl) :
    PE X (.Call (.Attribute o "index" apos) [e] [] pos) (tP X.K fun δ => (ga δ).bind fun x => (gl δ).bind fun r => indexD x r) :=
  imp (pe_bm PySem.F.plainAttrs_list PySem.F.slot_list_index PySem.F.type_list_index mt_index ho ha hbase hfew hline hs hplain) fun σ H Q ⟨δ, d, er, z, q⟩ => by
    obtain ⟨d1, e1, z⟩ := bnd z
    obtain ⟨r, e2, z⟩ := bnd z
    refine ⟨δ, d1, er, e1, fun v H1 s1 dv => ?_⟩
    obtain ⟨ds, y, vs, u, n, rfl, rfl, e3, e4, e5, rfl⟩ := indexD_some z
    · skip
      obtain ⟨j, z, ej, g1, g2, g3⟩ := ixOf_some e5
      cases dv with
      | lst sq all =>
        have ev := flats_is e3 all
        subst ev
        refine ⟨.inl ⟨rfl, _, SqL.of sq⟩, δ, [y], er.on s1, e2, fun ws H2 s2 dws => ?_⟩
        match ws, dws with
        | [wy], .cons dy .nil =>
          have eu := flatD_is e4 dy
          subst eu
          refine ⟨_, _, wy, j, z, rfl, rfl, SqL.of (s2 _ _ sq), flatD_flat e4, flats_flat e3, g1, g2, g3, ?_⟩
          have en : n = j := by omega
          subst en
          exact q _ _ (s1.trans s2) (.int _)
def lstEs (i : Nat) (δ : En) : D → Option (List En)
  | .list ds => if ds.length ≤ 1000 then some (ds.map fun d => (wipeD δ [i]).set i (some d)) else none
  | _ => none
theorem p_lcL (hc : X.calm = true) (hN : X.N.Nodup) (hi : PE X iter (tP X.K ga)) (ok : BlkOk X.N X.env.scope scope [(x, i)])
    (hg : ∀ (s : Shared) (H : Hp) (C : Addr) (cl : List (Str × Addr)) (fp : List Addr), PG (X.blk s H scope (compEnvC scope cl C X.env) fp) (.Name x tp) (gName i))
    (ht : ∀ (s : Shared) (H : Hp) (C : Addr) (cl : List (Str × Addr)) (fp : List Addr), PTs (X.blk s H scope (compEnvC scope cl C X.env) fp) ifs (tQ X.K gt))
    (he : ∀ (s : Shared) (H : Hp) (C : Addr) (cl : List (Str × Addr)) (fp : List Addr), PE (X.blk s H scope (compEnvC scope cl C X.env) fp) elt (tP X.K ge)) (hs : ∀ x, foldedSetIterable iter X.env x = pure x := by intro _; rfl) :
    PE X (.ListComp elt [⟨.Name x tp, iter, ifs, 0⟩] scope pos) (tP X.K fun δ => (ga δ).bind fun d => (lstEs i δ d).bind fun δs => (compO gt ge δs).bind fun ds => some (.list ds)) :=
  imp (pe_lc hc hN (pi_list hi) ok hg ht he hs) fun σ H Q ⟨δ, d, er, z, q⟩ => by
    obtain ⟨d1, e1, z⟩ := bnd z
    obtain ⟨δs, e2, z⟩ := bnd z
    obtain ⟨full, e3, z⟩ := bnd z
    cases z
    cases d1 <;> first | (cases e2; done) | skip
    rename_i ds
    by_cases hw : ds.length ≤ 1000
    · simp only [lstEs, if_pos hw] at e2
      cases e2
      refine ⟨δ, _, er, e1, fun v H1 s1 dv => ?_⟩
      cases dv with
      | lst sq all =>
      refine ⟨_, rfl, ⟨_, SqL.of sq⟩, fun L hL => ?_⟩
      refine comp_run (K := X.K) walk_list (by rw [List.length_map, all.len]) (by rw [all.len]; exact hw) hL (fun _ s2 => s2.seq (SqL.of sq)) e3 (q.on s1) fun k v H2 H' hk s2 yy => ?_
      obtain ⟨rfl, ec⟩ := yy
      have hk2 : k < ds.length := by rw [← all.len]; exact hk
      obtain ⟨u, eu, du⟩ := all.at (List.getElem?_eq_getElem hk2)
      have f1 : u = v := Option.some.inj (eu.symm.trans ec)
      subst f1
      refine ⟨Same.refl _, (wipeD δ [i]).set i (some ds[k]), ?_, fun R hR => ?_⟩
      · rw [List.getElem?_map, List.getElem?_eq_getElem hk2]; rfl
      · exact hR _ _ (Same.refl _) ((er_wipe (er.on (s1.trans s2)) [i]).set i (du.on s2)) wipe1
    · simp only [lstEs, if_neg hw] at e2; cases e2
/-- {} -/
theorem p_dict0 (h : PE X elt (fun σ H Q => ∀ p, H p = none → Q (.ref p) (upd H p (.dK [])))) : PE X elt (tP X.K fun _ => some (.dict [])) := imp h fun σ H Q ⟨δ, d, er, z, q⟩ => by
  cases z
  exact fun p hp => q _ _ (same_new hp) (.nod upd_same)
/-- for a, b in a list of pairs -/
def pairOf : D → Option (D × D)
  | .tuple l => match l with
    | a :: r => match r with
      | b :: t => match t with
        | [] => some (a, b)
        | _ :: _ => none
      | [] => none
    | [] => none
  | _ => none
theorem pairOf_some {d : D} {p : D × D} (h : pairOf d = some p) : d = .tuple [p.1, p.2] := by
  cases d with
  | tuple l =>
    cases l with
    | nil => cases h
    | cons a r => cases r with
      | nil => cases h
      | cons b t => cases t with
        | nil => cases h; rfl
        | cons _ _ => cases h
  | _ => cases h
def loop2 (i j : Nat) (gb : En → Option Out) : List D → En → Option Out
  | [], δ => some (.nx δ)
  | d :: r, δ => (pairOf d).bind fun p => (gb ((δ.set i (some p.1)).set j (some p.2))).bind fun o => match o with
    | .nx δ' => loop2 i j gb r δ'
    | .rt x => some (.rt x)
theorem loop2_cons {i j : Nat} {gb : En → Option Out} {d : D} {r : List D} {δ : En} {o : Out} (h : loop2 i j gb (d :: r) δ = some o) : ∃ a b o', d = .tuple [a, b] ∧ gb ((δ.set i (some a)).set j (some b)) = some o' ∧ ((∃ δ', o' = .nx δ' ∧ loop2 i j gb r δ' = some o) ∨ ∃ y, o' = .rt y ∧ o = .rt y) := by
  obtain ⟨p, e0, h⟩ := bnd (show ((pairOf d).bind fun p => (gb ((δ.set i (some p.1)).set j (some p.2))).bind fun o => match o with | .nx δ' => loop2 i j gb r δ' | .rt x => some (.rt x)) = some o from h)
  obtain ⟨o', e1, h⟩ := bnd h
  refine ⟨p.1, p.2, o', pairOf_some e0, e1, ?_⟩
  cases o' with
  | nx δ' => exact .inl ⟨δ', rfl, h⟩
  | rt y => cases h; exact .inr ⟨y, rfl, rfl⟩
theorem two_of {K : PySem.W.Frag} {H : Hp} {v : V} {a b : D} (h : Dt K H v (.tuple [a, b])) : ∃ t va vb, v = .ref t ∧ SqT K H t [va, vb] ∧ Dt K H va a ∧ Dt K H vb b := by
  cases h with
  | tup s all => cases all with
    | cons d1 r => cases r with
      | cons d2 r => cases r; exact ⟨_, _, _, rfl, s, d1, d2⟩
theorem s_for2 {gbo : En → Option Out} {body : List Stmt} {p1 p2 ptp : Pos} {kk : Nat} (hp : PassesOwn (model X.prog X.w) X.A X.env X.xe) (hc : X.calm = true) (hi : PE X iter (tP X.K ga)) (hg : PG X (.Tuple [.Name x p1, .Name y p2] kk ptp) (gTup X.K 2 (gCons (gName i) (gCons (gName j) gNil)))) (hb : PSs X body (tS X.K gbo)) (hs : ∀ x, foldedSetIterable iter X.env x = pure x := by intro _; rfl) (h0 : i ≠ 0 := by decide) (h0' : j ≠ 0 := by decide) :
    PS X (.For (.Tuple [.Name x p1, .Name y p2] kk ptp) iter body [] pos) (tS X.K fun δ => (ga δ).bind fun d => match d with
      | .list ds => loop2 i j gbo ds δ
      | _ => none) :=
  impS (ps_for hp hc (pi_list hi) hg hb hs) fun E σ H ⟨δ, o, er, z, q⟩ => by
    obtain ⟨d, e1, z⟩ := bnd z
    refine ⟨δ, d, er, e1, fun v H1 s1 dv => ?_⟩
    cases d with
    | list ds =>
      cases dv with
      | lst s all =>
        refine ⟨_, rfl, ⟨_, SqL.of s⟩, ?_⟩
        have q1 := wish_on q s1
        refine for_it walk_list (D := E) (fun k τ H => Same H1 H ∧ τ[0]? = σ[0]? ∧ ∃ δ, Er X.K H τ δ ∧ loop2 i j gbo (ds.drop k) δ = some o) ⟨Same.refl _, rfl, δ, er.on s1, z⟩ (fun _ _ _ _ p => p.1.seq (SqL.of s)) (fun k v τ H H' hk p yy => ?_) fun τ H p => ?_
        · obtain ⟨s0, z0, δ, er, h⟩ := p
          obtain ⟨rfl, ev⟩ := yy
          have hk2 : k < ds.length := by rw [← all.len]; exact hk
          rw [List.drop_eq_getElem_cons hk2] at h
          obtain ⟨a, b, o', ed, e2, w⟩ := loop2_cons h
          obtain ⟨u, eu, du⟩ := all.at (List.getElem?_eq_getElem hk2)
          have f1 : u = v := Option.some.inj (eu.symm.trans ev)
          subst f1
          rw [ed] at du
          obtain ⟨t, va, vb, rfl, st, da, db⟩ := two_of (du.on s0)
          refine ⟨_, _, rfl, st, rfl, va, [vb], rfl, vb, [], rfl, rfl, ?_⟩
          refine ⟨_, o', (er.set i da).set j db, e2, ?_⟩
          rcases w with ⟨δ', rfl, h'⟩ | ⟨y, rfl, rfl⟩
          · exact fun σ2 H2 s2 e2 z2 => ⟨s0.trans s2, by rw [z2, List.getElem?_set_ne h0', List.getElem?_set_ne h0]; exact z0, δ', e2, h'⟩
          · exact Gives.on q1 s0
        · obtain ⟨s0, z0, δ, er, h⟩ := p
          rw [List.drop_eq_nil_of_le (by rw [all.len]; exact Nat.le_refl _)] at h
          cases h
          exact q1 τ H s0 er z0
    | _ => cases z
end
end Wn

namespace Wn
open PySem PySem.Spec PyProof.Rows L2
def Out.val : Out → D
  | .rt d => d
  | .nx _ => .none
def startD (n : Nat) (ds : List D) : En := ds.map some ++ List.replicate (n - ds.length) none
/-- a def's function, from its body's -/
def fnD (n : Nat) (g : En → Option Out) : List D → Option D := fun ds => (g (startD n ds)).bind fun o => some o.val
theorem er_start {K : PySem.W.Frag} {H : Hp} {N : List Str} {vs : List V} {ds : List D} (sy : Sy H) (all : DtAll K H vs ds) : Er K H (L2.start N vs) (startD N.length ds) := by
  have hl := all.len
  refine ⟨by simp [L2.start, startD, hl], fun i d e => ?_, sy⟩
  unfold startD at e
  by_cases hi : i < ds.length
  · rw [List.getElem?_append_left (by simpa using hi), List.getElem?_map] at e
    cases q : ds[i]? with
    | none =>
      rw [q] at e
      cases e
    | some x =>
      rw [q] at e
      cases e
      obtain ⟨v, ev, dv⟩ := all.at q
      refine ⟨v, ?_, dv⟩
      unfold L2.start
      rw [List.getElem?_append_left (by simpa [hl] using hi), List.getElem?_map, ev]
      rfl
  · rw [List.getElem?_append_right (by simpa using hi), List.getElem?_replicate] at e
    split at e <;> cases e
theorem rd {K : PySem.W.Frag} {H : Hp} {N : List Str} {vs : List V} {ds : List D} {g : En → Option Out} {d : D} {Q : VK} (sy : Sy H) (all : DtAll K H vs ds) (h : fnD N.length g ds = some d) (q : Gives K H d Q) : tS K g { nx := fun _ H' => Q .non H', rt := Q } (L2.start N vs) H := by
  obtain ⟨o, e1, h⟩ := bnd h
  cases h
  refine ⟨_, o, er_start sy all, e1, ?_⟩
  cases o with
  | nx δ => exact fun σ' H' s' _ _ => q .non H' s' .non
  | rt d => exact q
/-- a def as it stands behind the top -/
structure Dfn (K : PySem.W.Frag) (mg : Str → Option Value) (x : Str) (st : Stmt) (ps : List Str) : Prop where
  ex : ∃ f fd, Fun K x x st f fd ∧ mg x = some (.ref f) ∧ Binds K fd ps []
structure Cal (P : Program) (w : World) (K : PySem.W.Frag) (mg : Str → Option Value) (base : Heap) (x : Str) (st : Stmt) (k : Nat) (ps : List Str) (n : Nat) (g : List D → Option D) : Prop where
  ex : ∃ f fd, Fun K x x st f fd ∧ FnOk P w K mg base CX0 k f fd ps (spP K n g) ∧ mg x = some (.ref f) ∧ Binds K fd ps []
structure CalG (P : Program) (w : World) (K : PySem.W.Frag) (mg : Str → Option Value) (base : Heap) (x : Str) (st : Stmt) (k : Nat) (ps : List Str) (n : Nat) (g : List D → Option D) : Prop where
  ex : ∃ f fd, Fun K x x st f fd ∧ FnG P w K mg base k f fd ps (spP K n g) ∧ mg x = some (.ref f) ∧ Binds K fd ps []
section
variable {P : Program} {w : World} {K : PySem.W.Frag} {mg : Str → Option Value} {base : Heap} {x : Str} {st : Stmt} {N ps : List Str} {n k : Nat} {g : En → Option Out}
theorem mk_def (A : Dfn K mg x st ps) (S : FnScope N ps (defScope st)) (hn : ps.length = n)
    (h : ∀ (f : Addr) (cdv : Value) (A : Around) (outer : List Env) (s : Shared) (H : Hp) (E : XK), Room k (A.deeper (envOfC x (defScope st) s.heap.objs.size f cdv)) → PSs (cxOf CX0 P w K mg base N x (defScope st) f cdv A outer s H E).nox (defBody st) (tS K g)) :
    Cal P w K mg base x st (k + 1) ps n (fnD N.length g) := by
  obtain ⟨f, fd, F, m, b⟩ := A.ex
  refine ⟨f, fd, F, F.ok S (fun vs H Q E z => ?_) (fun cdv A outer s H vs Q E hr z => ?_), m, b⟩
  · obtain ⟨_, ds, d, all, l, _⟩ := z
    rw [all.len, l, hn]
  · obtain ⟨sy, ds, d, all, l, e, q⟩ := z
    exact ⟨_, h f cdv A outer s H E hr, rd sy all e q⟩
theorem mk_defG (A : Dfn K mg x st ps) (S : FnScope N ps (defScope st)) (hn : ps.length = n)
    (h : ∀ (f : Addr) (cdv : Value) (A : Around) (outer : List Env) (s : Shared) (H : Hp) (E : XK), Room k (A.deeper (envOfC x (defScope st) s.heap.objs.size f cdv)) → A.guards = some [] → PSs (cxOf CX0 P w K mg base N x (defScope st) f cdv A outer s H E).nox (defBody st) (tS K g)) :
    CalG P w K mg base x st (k + 1) ps n (fnD N.length g) := by
  obtain ⟨f, fd, F, m, b⟩ := A.ex
  refine ⟨f, fd, F, okG F S (fun vs H Q E z => ?_) (fun cdv A outer s H vs Q E hr hG z => ?_), m, b⟩
  · obtain ⟨_, ds, d, all, l, _⟩ := z
    rw [all.len, l, hn]
  · obtain ⟨sy, ds, d, all, l, e, q⟩ := z
    exact ⟨_, h f cdv A outer s H E hr hG, rd sy all e q⟩
end
section
variable {X : Cx} {e : Expr} {es : List Expr} {pos p : Pos} {gl : En → Option (List D)} {x : Str} {st : Stmt} {ps : List Str} {n k j : Nat} {g : List D → Option D}
theorem c_call (C : Cal X.prog X.w X.K X.mg X.base x st j ps n g) (hr : Room k X.A) (hj : j ≤ k) (hg : Gl X x) (ha : PA X (e :: es) (tL X.K gl))
    (he : starEach (e :: es) X.env = (false, eval e X.env) :: starEach es X.env := by rfl) (hpl : (backTo pos (starEach es X.env)).any (·.1) = false := by rfl) (hdb : (x == ("__debug__" : Str)) = false := by decide) :
    PE X (.Call (.Name x p) (e :: es) [] pos) (tP X.K fun δ => (gl δ).bind fun r => if r.length = n then g r else none) := by
  obtain ⟨f, fd, F, G, m, b⟩ := C.ex
  exact p_call G (hr.mono hj) hg m F.kp b ha hdb he hpl
theorem c_callG (C : CalG X.prog X.w X.K X.mg X.base x st j ps n g) (hr : Room k X.A) (hj : j ≤ k) (hG : X.A.guards = some []) (hg : Gl X x) (ha : PA X (e :: es) (tL X.K gl))
    (he : starEach (e :: es) X.env = (false, eval e X.env) :: starEach es X.env := by rfl) (hpl : (backTo pos (starEach es X.env)).any (·.1) = false := by rfl) (hdb : (x == ("__debug__" : Str)) = false := by decide) :
    PE X (.Call (.Name x p) (e :: es) [] pos) (tP X.K fun δ => (gl δ).bind fun r => if r.length = n then g r else none) := by
  obtain ⟨f, fd, F, G, m, b⟩ := C.ex
  exact p_G G (hr.mono hj) hG hg m F.kp b ha hdb he hpl
/-- keywords alone: how they bind is read off the def's own parameters -/
theorem c_callK {kws : List Keyword} {ks : List Str} {perm : List D → Option (List D)} {wp : List V → List V} {up : List Value → List Value} (C : Cal X.prog X.w X.K X.mg X.base x st j ps n g) (hr : Room k X.A) (hj : j ≤ k) (hg : Gl X x)
    (hb : ∀ (kV doc pm : Value) (an : Option Addr) (cdv ct : Value) (ws : List Value), ws.length = ks.length → bindArgs (PySem.W.fnOf x x (defArgs st) (defBody st) (defScope st) .none kV doc pm an cdv ct) ⟨[], ks.zip ws⟩ = pure (ps.zip (up ws))) (hv : ∀ {vs : List V} {ws : List Value}, Vals vs ws → vs.length = ks.length → Vals (wp vs) (up ws))
    (hd : ∀ {H : Hp} {vs : List V} {ds es : List D}, DtAll X.K H vs ds → perm ds = some es → vs.length = ks.length ∧ DtAll X.K H (wp vs) es)
    (hkw : PK X kws (tL X.K gl)) (hall : (backToKw pos (keywordEach kws X.env)).all (·.1.isSome) = true := by rfl) (hks : (backToKw pos (keywordEach kws X.env)).filterMap (·.1) = ks := by rfl)
    (hdb : (x == ("__debug__" : Str)) = false := by decide) (hpl : ((backTo pos (starEach [] X.env)).any (·.1) || (backToKw pos (keywordEach kws X.env)).any (·.1.isNone)) = false := by rfl) :
    PE X (.Call (.Name x p) [] kws pos) (tP X.K fun δ => (gl δ).bind fun r => (perm r).bind fun r' => if r'.length = n then g r' else none) := by
  obtain ⟨f, fd, F, G, m, b⟩ := C.ex
  refine p_K G (hr.mono hj) hg m F.kp (fun s ws _ hl => ?_) hv hd hkw hall hks hdb hpl
  obtain ⟨c0, d0, kV, doc, pm, an, cdv, ct, s0, rfl, lk, hcd⟩ := F.ex
  exact .of_eq (hb kV doc pm an cdv ct ws hl)
/-- the keywords' values turned about -/
def rev1 : List D → Option (List D)
  | [a] => some [a]
  | _ => none
def rev2 : List D → Option (List D)
  | [a, b] => some [b, a]
  | _ => none
def rev3 : List D → Option (List D)
  | [a, b, c] => some [c, b, a]
  | _ => none
theorem rev1_dt {K : PySem.W.Frag} {H : Hp} {vs : List V} {ds es : List D} (h : DtAll K H vs ds) (e : rev1 ds = some es) : vs.length = 1 ∧ DtAll K H vs es := by
  match ds, e, h with
  | [a], e, .cons h1 .nil => cases e; exact ⟨rfl, .cons h1 .nil⟩
theorem rev2_dt {K : PySem.W.Frag} {H : Hp} {vs : List V} {ds es : List D} (h : DtAll K H vs ds) (e : rev2 ds = some es) : vs.length = 2 ∧ DtAll K H vs.reverse es := by
  match ds, e, h with
  | [a, b], e, .cons h1 (.cons h2 .nil) => cases e; exact ⟨rfl, .cons h2 (.cons h1 .nil)⟩
theorem rev3_dt {K : PySem.W.Frag} {H : Hp} {vs : List V} {ds es : List D} (h : DtAll K H vs ds) (e : rev3 ds = some es) : vs.length = 3 ∧ DtAll K H vs.reverse es := by
  match ds, e, h with
  | [a, b, c], e, .cons h1 (.cons h2 (.cons h3 .nil)) => cases e; exact ⟨rfl, .cons h3 (.cons h2 (.cons h1 .nil))⟩
theorem rev2_v {vs : List V} {ws : List Value} (h : Vals vs ws) (l : vs.length = 2) : Vals vs.reverse ws.reverse := by
  match vs, ws, h with
  | [_, _], _, .cons h1 (.cons h2 .nil) => exact .cons h2 (.cons h1 .nil)
theorem rev3_v {vs : List V} {ws : List Value} (h : Vals vs ws) (l : vs.length = 3) : Vals vs.reverse ws.reverse := by
  match vs, ws, h with
  | [_, _, _], _, .cons h1 (.cons h2 (.cons h3 .nil)) => exact .cons h3 (.cons h2 (.cons h1 .nil))
end
end Wn

namespace Wn
open PySem PySem.Spec PyProof.Rows L2
open PySem.Calls PySem.HandSPX
/-! ### the built-in classes above the program's own errors -/
structure Xb where
  tail : List Value
  newId : String
  iB : String
  initId : String
/-- own classes, then a base's own row of classes -/
def refsT (t : List Value) : List Value → Bool
  | .ref _ :: r => refsT t r
  | l => l == t
theorem refsT_or {t : List Value} (l : List Value) (h : refsT t l = true) : (∃ c r, l = .ref c :: r ∧ refsT t r = true) ∨ l = t := by
  cases l with
  | nil => exact .inr (beq_iff_eq.mp h)
  | cons a r => cases a with
    | ref c => exact .inl ⟨c, r, rfl, h⟩
    | _ => exact .inr (beq_iff_eq.mp h)
theorem refsT_has {t : List Value} (y : String) : ∀ l : List Value, refsT t l = true → l.contains (.type y) = t.contains (.type y)
  | [], h => by
    rcases refsT_or [] h with ⟨_, _, z, _⟩ | z
    · cases z
    · rw [z]
  | a :: r, h => by
    rcases refsT_or (a :: r) h with ⟨c, r', z, g⟩ | z
    · cases z
      rw [List.contains_cons, refsT_has y r g]
      rfl
    · rw [z]
theorem refsT_pass {t : List Value} {self : Value} (p : refuseLoop self "__setattr__" t = pure ()) : ∀ l : List Value, refsT t l = true → refuseLoop self "__setattr__" l = pure ()
  | [], h => by
    rcases refsT_or [] h with ⟨_, _, z, _⟩ | z
    · cases z
    · rw [z]; exact p
  | a :: r, h => by
    rcases refsT_or (a :: r) h with ⟨c, r', z, g⟩ | z
    · cases z
      rw [refuseLoop_ref]
      exact refsT_pass p r g
    · rw [z]; exact p
structure XbOk (b : Xb) : Prop where
  new : ∃ nB nI nT, ExcBaseFacts nB b.newId nI nT ∧ b.tail.contains (.type nB) = true
  noA : b.tail.contains (.type "AttributeError") = false
  noN : b.tail.contains (.type "NameError") = false
  pass : ∀ self, refuseLoop self "__setattr__" b.tail = pure ()
  ob : b.tail.contains (.type "object") = true
  hi : b.tail.contains (.type b.iB) = true
  slot : Slot b.iB "__init__" b.initId
  entry : entryFor table b.initId = some Builtin.«BaseException.__init__»
  split : splitId b.initId = some (b.iB, "__init__")
  kind : builtinKind b.initId = some .slot
  row : Manifest.signature? b.initId = some ⟨.positional, "*", b.iB, .self, [⟨"args", .varPos, false⟩]⟩
  star : (b.iB != "*") = true
def bVE : Xb := ⟨[.type "ValueError", .type "Exception", .type "BaseException", .type "object"], "ValueError.__new__", "ValueError", "ValueError.__init__"⟩
def bIE : Xb := ⟨[.type "IndexError", .type "LookupError", .type "Exception", .type "BaseException", .type "object"], "IndexError.__new__", "IndexError", "IndexError.__init__"⟩
def bOE : Xb := ⟨[.type "OverflowError", .type "ArithmeticError", .type "Exception", .type "BaseException", .type "object"], "OverflowError.__new__", "OverflowError", "OverflowError.__init__"⟩
def bKE : Xb := ⟨[.type "KeyError", .type "LookupError", .type "Exception", .type "BaseException", .type "object"], "LookupError.__new__", "KeyError", "KeyError.__init__"⟩
theorem xb_of {B newId initId : String} {bm : List Value} (F : ExcBaseFacts B newId initId bm) (pass : ∀ self, refuseLoop self "__setattr__" bm = pure ()) (ob : bm.contains (.type "object") = true) : XbOk ⟨bm, newId, B, initId⟩ :=
  ⟨⟨B, initId, bm, F, F.hasB⟩, F.noAttr, F.noName, pass, ob, F.hasB, F.init, F.initEntry, F.initSplit, F.initKind, F.initRow, F.noStar⟩
theorem okVE : XbOk bVE := xb_of F.excBase_ValueError (fun self => by kernel_rfl) (by decide +kernel)
theorem okIE : XbOk bIE := xb_of F.excBase_IndexError (fun self => by kernel_rfl) (by decide +kernel)
theorem okOE : XbOk bOE := xb_of F.excBase_OverflowError (fun self => by kernel_rfl) (by decide +kernel)
theorem okKE : XbOk bKE where
  new := ⟨"LookupError", _, _, F.excBase_LookupError, by decide +kernel⟩
  noA := by decide +kernel
  noN := by decide +kernel
  pass := fun self => by kernel_rfl
  ob := by decide +kernel
  hi := by decide +kernel
  slot := .of (owner := "KeyError") (n := "__init__") (by rw [typeLookup_type, builtinLookup_eq_fast]; kernel_rfl) (by decide +kernel) (by decide +kernel) (by decide +kernel) (by first | exact .inl (by decide +kernel) | exact .inr (by decide +kernel)) (by rw [isSubtype_type]; kernel_rfl)
  entry := entryFor_alias (id' := "BaseException.__init__") (by rw [fastTable_eq_tree]; kernel_rfl) (by first | rfl | decide +kernel) (by decide +kernel) (by rw [fastTable_eq_tree]; kernel_rfl)
  split := by kernel_rfl
  kind := by kernel_rfl
  row := by kernel_rfl
  star := by decide +kernel
/-! ### C(..), with keywords too: a new error, then the own __init__ -/
section
variable {M : Model} {A : Around} {E : Value → Shared → Prop} {h : Heap} {g : Array GenState} {d : Drawn} {t : Nat} {os : OsState}
variable {nm q : Str} {C N : Addr} {bs bm : List Value} {hdct : Bool} {sn : List Str} {sub : List Value} {ab : Bool} {col : Option Bool} {dd : Option Addr} {k0 k1 k2 k3 k5 : Option Value} {b : Xb} {rest : List Value} {kw : List (Str × Value)}
theorem chk_new (B : XbOk b) (tl : refsT b.tail bm = true) {Q : Unit → Shared → Prop} (hC : h.get? C = some (excClassObj nm q C N bs bm hdct sn sub ab col dd k0 k1 k2 k3 k5 b.newId)) (z : Q () ⟨h, g, d, t, os⟩) :
    wpAny M A (checkBuiltinCall b.newId ⟨.ref C :: rest, kw⟩) Q E ⟨h, g, d, t, os⟩ := by
  obtain ⟨nB, nI, nT, F, hB⟩ := B.new
  have has : (Value.ref C :: bm).contains (.type nB) = true := by rw [List.contains_cons, refsT_has nB bm tl, hB, Bool.or_true]
  have star := F.noStar
  simp only [checkBuiltinCall, F.newKind, F.newSplit, F.newRow]
  repeat (first | refine wpAny_loadPart_at hC ?_ | (refine wpAny_isSubtype_exc hC ?_; rw [has]) | refine wpAny_staticBase_exc hC ?_ | refine wpAny_madeBy_exc hC ?_ | simp only [bne_self_eq_false, Bool.false_eq_true, if_false] | wp_step)
  exact z
theorem chk_init (B : XbOk b) (tl : refsT b.tail bm = true) {e : Addr} {oe : Obj} {Q : Unit → Shared → Prop} (hC : h.get? C = some (excClassObj nm q C N bs bm hdct sn sub ab col dd k0 k1 k2 k3 k5 b.newId)) (he : h.get? e = some oe) (ec : oe.cls = .ref C) (z : Q () ⟨h, g, d, t, os⟩) :
    wpAny M A (checkBuiltinCall b.initId ⟨.ref e :: rest, []⟩) Q E ⟨h, g, d, t, os⟩ := by
  have has : (Value.ref C :: bm).contains (.type b.iB) = true := by rw [List.contains_cons, refsT_has b.iB bm tl, B.hi, Bool.or_true]
  have star := B.star
  simp only [checkBuiltinCall, B.kind, B.split, B.row]
  repeat (first | (with_reducible refine wpAny_loadPart_at he ?_; rw [ec]) | with_reducible refine wpAny_loadPart_at hC ?_ | (with_reducible refine wpAny_isSubtype_exc hC ?_; rw [has]) | wp_step)
  refine wpAny_onRaise ?_
  rw [show ∀ (x y : String) (n : Nat), Bind.check ⟨.positional, "*", b.iB, .self, [⟨"args", .varPos, false⟩]⟩ x y n (({ pos := Value.ref e :: rest } : Args).kw.map fun w => w.fst) = pure () from fun x y n => check_star_args _ _ _ _ _ _]
  exact wpAny_pure z
end
section
variable {prog : Program} {w : World} {A : Around} {E : Value → Shared → Prop} {R : Result → Shared → Prop} {h : Heap} {g : Array GenState} {d : Drawn} {t : Nat} {os : OsState}
variable {nm q : Str} {C N : Addr} {bs bm : List Value} {hdct : Bool} {sn : List Str} {sub : List Value} {ab : Bool} {col : Option Bool} {dd : Option Addr} {k0 k1 k2 k3 k5 : Option Value} {b : Xb} {rest : List Value} {kw : List (Str × Value)}
theorem new_x (B : XbOk b) (tl : refsT b.tail bm = true) (hC : h.get? C = some (excClassObj nm q C N bs bm hdct sn sub ab col dd k0 k1 k2 k3 k5 b.newId)) (z : R (.ok (.ret (.ref (h.objs.size + 1)))) ⟨(h.push (PySem.W.kdv_tup rest)).push (excO C h.objs.size), g, d, t, os⟩) (small : rest.length ≤ sizeLine) :
    codeAny (model prog w) A (.builtin b.newId ⟨.ref C :: rest, kw⟩) R ⟨h, g, d, t, os⟩ := by
  obtain ⟨nB, nI, nT, F, hB⟩ := B.new
  have ends := F.ends
  have cB : (Value.ref C :: bm).contains (.type nB) = true := by rw [List.contains_cons, refsT_has nB bm tl, hB, Bool.or_true]
  have cA : (Value.ref C :: bm).contains (.type "AttributeError") = false := by rw [List.contains_cons, refsT_has _ bm tl, B.noA]; rfl
  have cN : (Value.ref C :: bm).contains (.type "NameError") = false := by rw [List.contains_cons, refsT_has _ bm tl, B.noN]; rfl
  refine codeAny_builtinAt F.entry ?_
  unfold Builtin.«BaseException.__new__»
  refine PySem.wpAt_bind ?_
  show PySem.wpAt _ _ _ (stack >>= _) _ _ _
  refine PySem.wpAt_bind (PySem.wpAt_stack fun p below => PySem.wpAt_of_wpAny ?_)
  wp_walk
  refine PySem.wpAt_of_wpAny ?_
  rw [F.owner]
  repeat (first | with_reducible refine wpAny_madeHere_exc F.canon hC ?_ | with_reducible refine wpAny_loadPart_at hC ?_ | (with_reducible refine wpAny_isSubtype_exc hC ?_; first | rw [cB] | rw [cA] | rw [cN]) | wp_step)
  show R _ _
  rw [Heap.size_push]
  exact z
theorem tcall_x (B : XbOk b) (tl : refsT b.tail bm = true) {fI : Addr} {Q : Fin → Shared → Prop} (hC : h.get? C = some (excClassObj nm q C N bs bm hdct sn sub ab col dd k0 k1 k2 k3 k5 b.newId))
    (hi : PySem.W.Looks (model prog w) h (typeLookup (.ref C) "__init__") (some (.ref fI))) (hb : ∀ self, PySem.W.Looks (model prog w) h (bindSpecial (.ref fI) self) (.ref fI, [self])) (small : rest.length ≤ sizeLine)
    (z : codeAny (model prog w) A (.call (.ref fI) ⟨.ref (h.objs.size + 1) :: rest, kw⟩) (fun r s' => match r with | .ok (.ret v) => v = .none ∧ Q (.done (.ret (.ref (h.objs.size + 1)))) s' | .ok _ => False | .error e => E e s') ⟨(h.push (PySem.W.kdv_tup rest)).push (excO C h.objs.size), g, d, t, os⟩) :
    wpAny (model prog w) A (Builtin.«type.__call__» ⟨.ref C :: rest, kw⟩) Q E ⟨h, g, d, t, os⟩ := by
  have quiet : b.newId.startsWith "lifetime." = false := let ⟨_, _, _, F, _⟩ := B.new; F.quiet
  repeat (first | with_reducible refine wpAny_loadPart_at hC ?_ | with_reducible refine wpAny_madeBy_exc hC ?_ | wp_step)
  refine codeAny_call_builtin_code (Code.quiet_builtin _ quiet) (chk_new B tl hC ?_)
  refine new_x B tl hC ?_ small
  show wpAny _ _ _ _ _ _
  have keep : ∀ x o, h.get? x = some o → ((h.push (PySem.W.kdv_tup rest)).push (excO C h.objs.size)).get? x = some o := fun x o e => Heap.get?_push_of_some _ (Heap.get?_push_of_some _ e)
  have hC1 := keep _ _ hC
  have there : ((h.push (PySem.W.kdv_tup rest)).push (excO C h.objs.size)).get? (h.objs.size + 1) = some (excO C h.objs.size) := by heap_get
  have own : (Value.ref C :: bm).contains (.ref C) = true := by simp
  have i1 := hi.keeps keep
  have b1 := (hb (.ref (h.objs.size + 1))).keeps keep
  unfold isInstance
  repeat (first | with_reducible refine wpAny_loadPart_at there ?_ | (with_reducible refine wpAny_isSubtype_exc hC1 ?_; rw [own]) | wp_step)
  show wpAny _ _ (typeLookup (.ref C) _) _ _ _
  refine i1.at ?_
  refine wpAny_holding (wpAny_bind (b1.at ?_))
  refine wpAny_bind (wpAny_call (codeAny_mono z fun r s' y => ?_))
  rcases r with e | (v | _ | _ | _) <;> first | exact y | exact y.elim | skip
  obtain ⟨rfl, y⟩ := y
  first
    | exact wpAny_pure (wpAny_pure y)
    | (wp_walk; exact y)
theorem call_x (B : XbOk b) (tl : refsT b.tail bm = true) {fI : Addr} (hC : h.get? C = some (excClassObj nm q C N bs bm hdct sn sub ab col dd k0 k1 k2 k3 k5 b.newId))
    (hi : PySem.W.Looks (model prog w) h (typeLookup (.ref C) "__init__") (some (.ref fI))) (hb : ∀ self, PySem.W.Looks (model prog w) h (bindSpecial (.ref fI) self) (.ref fI, [self])) (small : rest.length ≤ sizeLine)
    (z : codeAny (model prog w) (A.under (.builtin "type.__call__" ⟨.ref C :: rest, kw⟩)) (.call (.ref fI) ⟨.ref (h.objs.size + 1) :: rest, kw⟩) (PySem.W.InitBack (h.objs.size + 1) R) ⟨(h.push (PySem.W.kdv_tup rest)).push (excO C h.objs.size), g, d, t, os⟩) :
    codeAny (model prog w) A (.call (.ref C) ⟨rest, kw⟩) R ⟨h, g, d, t, os⟩ := by
  have f1 := tc_lookup
  have f2 := tc_bind (.ref C)
  have ty : (⟨h, g, d, t, os⟩ : Shared).TypeIs (.ref C) "type" := ⟨_, hC, rfl⟩
  refine codeAny_of_tree ?_
  show wpAny _ _ (callAny (.ref C) _) _ _ _
  repeat (any_goals (first | assumption | with_reducible refine wpAny_loadPart_at hC ?_ | wp_step))
  refine ⟨rfl, ?_⟩
  refine codeAny_call_builtin_at (Code.quiet_builtin _ (by decide +kernel)) entry_typeCall (wpAny_check_type_call_sub hC (tcall_x B tl hC hi hb small ?_))
  refine codeAny_mono z fun r s' y => ?_
  rcases r with e | (v | _ | _ | _) <;> exact y
/-- Base.__init__(e, ..): the args are laid anew -/
theorem init_x (B : XbOk b) (tl : refsT b.tail bm = true) {e t0 : Addr} (hC : h.get? C = some (excClassObj nm q C N bs bm hdct sn sub ab col dd k0 k1 k2 k3 k5 b.newId)) (he : h.get? e = some (excO C t0)) (small : rest.length ≤ sizeLine)
    (z : ∀ h' t1, (∀ x o, x ≠ e → h.get? x = some o → h'.get? x = some o) → h'.get? e = some (excO C t1) → R (.ok (.ret .none)) ⟨h', g, d, t, os⟩) :
    codeAny (model prog w) A (.call (.builtin b.initId) ⟨.ref e :: rest, []⟩) R ⟨h, g, d, t, os⟩ := by
  refine codeAny_call_builtin B.slot.plain B.entry (chk_init B tl hC he rfl ?_)
  wp_walk
  refine z _ h.objs.size (fun x o hx ho => ?_) ?_
  · rw [Heap.get?_update_other _ _ (Ne.symm hx)]
    exact Heap.get?_push_of_some _ ho
  · rw [Heap.get?_update_self _ (Heap.get?_push_of_some _ he) rfl]
    rfl
end
end Wn

namespace Wn
open PySem PySem.Spec PyProof.Rows L2
open PySem.Calls PySem.HandSPX
/-! ### what the written part says of an error's class -/
structure XC (b : Xb) (K : PySem.W.Frag) (C : Addr) : Prop where
  ok : XbOk b
  cls : ∃ nm q N bs bm sn sub ab col dd k0 k1 k2 k3 k5, K.lookup C = some (excClassObj nm q C N bs bm true sn sub ab col dd k0 k1 k2 k3 k5 b.newId) ∧ refsT b.tail bm = true
  sa : PySem.W.findIn K (.ref C) "__setattr__" = some (some (.builtin "object.__setattr__"))
  ty : PySem.W.typeIn K (.ref C) = some (.type "type")
  kp : PySem.W.keepIn K (.ref C) = true
  e : ExcC K C
def clsB (b : Xb) (K : PySem.W.Frag) (C : Addr) : Bool := match K.lookup C with
  | some ⟨.type "type", _, .cls k, slots⟩ => (match k.mro, slots.toList with
    | .ref D :: row, [_, _, _, _, some (.builtin made), _] => (D == C) && ((made == b.newId) && (!k.hasDel && (k.hasDict && refsT b.tail row)))
    | _, _ => false)
  | _ => false
theorem clsB_ok {b : Xb} {K : PySem.W.Frag} {C : Addr} (h : clsB b K C = true) : ∃ nm q N bs bm sn sub ab col dd k0 k1 k2 k3 k5, K.lookup C = some (excClassObj nm q C N bs bm true sn sub ab col dd k0 k1 k2 k3 k5 b.newId) ∧ refsT b.tail bm = true := by
  unfold clsB at h
  split at h
  · rename_i dd cd sl ho
    split at h
    · rename_i D bm k0 k1 k2 k3 n k5 hm hs
      simp only [Bool.and_eq_true, beq_iff_eq, Bool.not_eq_true'] at h
      obtain ⟨rfl, rfl, hdel, hdct, tl⟩ := h
      obtain ⟨nm, bs, mro, ns, qn, hd, sn, sub, ab, col, del⟩ := cd
      dsimp only at hm hdel hdct
      subst hm hdel hdct
      obtain ⟨l⟩ := sl
      simp only at hs
      subst hs
      exact ⟨nm, qn, ns, bs, bm, sn, sub, ab, col, dd, k0, k1, k2, k3, k5, ho, tl⟩
    · cases h
  · cases h
def excB (K : PySem.W.Frag) (D : Addr) : Bool :=
  decide (PySem.W.findIn K (.ref D) "__getattribute__" = some (some (.builtin "BaseException.__getattribute__"))) && (decide (PySem.W.findIn K (.ref D) "__getattr__" = some none) && (decide (PySem.W.subIn K (.ref D) (.type "BaseException") = some true) && (PySem.W.hasDictIn K D && (decide (PySem.W.findIn K (.ref D) "__class__" = some (some (.builtin "object.__class__"))) && (decide (PySem.W.specialIn K (.builtin "object.__class__") "__get__" = some (some (.builtin "getset_descriptor.__get__"))) && (decide (PySem.W.takesIn K (.builtin "object.__class__") = some true) && decide (PySem.W.mroIn K D (.type "object") = some true)))))))
theorem excB_ok {K : PySem.W.Frag} {D : Addr} (h : excB K D = true) : ExcC K D := by
  simp only [excB, Bool.and_eq_true, decide_eq_true_eq] at h
  obtain ⟨h1, h2, h3, h4, h5, h6, h7, h8⟩ := h
  exact ⟨h1, h2, h3, h4, h5, h6, h7, h8⟩
def xcB (b : Xb) (K : PySem.W.Frag) (C : Addr) : Bool :=
  clsB b K C && (decide (PySem.W.findIn K (.ref C) "__setattr__" = some (some (.builtin "object.__setattr__"))) && (decide (PySem.W.typeIn K (.ref C) = some (.type "type")) && (PySem.W.keepIn K (.ref C) && excB K C)))
theorem xcB_ok {b : Xb} {K : PySem.W.Frag} {C : Addr} (B : XbOk b) (h : xcB b K C = true) : XC b K C := by
  simp only [xcB, Bool.and_eq_true, decide_eq_true_eq] at h
  obtain ⟨h1, h2, h3, h4, h5⟩ := h
  exact ⟨B, clsB_ok h1, h2, h3, h4, excB_ok h5⟩
theorem ExcC.xf {K : PySem.W.Frag} {C : Addr} (h : ExcC K C) : XfC K C := ⟨h.hg, h.hk, h.hs, h.hd⟩
theorem ExcC.cl {K : PySem.W.Frag} {C : Addr} (h : ExcC K C) : (PySem.W.clsIn K C).isSome = true := by
  obtain ⟨cd, hc, _⟩ := PySem.W.any_some h.hd
  rw [hc]
  rfl
/-! ### self.name = v on an error: without a dict as yet, with one -/
section
open Builtin Builtin.ObjectAttr
variable {prog : Program} {w : World} {A : Around} {E : Value → Shared → Prop} {R : Result → Shared → Prop} {hp : Heap} {g : Array GenState} {d : Drawn} {t : Nat} {os : OsState} {b : Xb}
theorem osaN {K : PySem.W.Frag} {name : Str} {tk : Tok} {v : Value} {x C : Addr} {fv : Array Value} {cd : ClassData} {bm : List Value} (B : XbOk b) (X : K.In hp) (hx : hp.get? x = some { cls := .ref C, data := .fields fv }) (hcd : PySem.W.clsIn K C = some cd) (em : cd.mro = .ref C :: bm) (tl : refsT b.tail bm = true)
    (hh : cd.hasDict = true) (ha : PySem.W.findIn K (.ref C) name = some none)
    (z : ∀ h' tk' dx, (∀ y o, y ≠ x → hp.get? y = some o → h'.get? y = some o) → hp.objs.size ≤ dx → dx ≠ x → h'.get? x = some { cls := .ref C, dict := some dx, data := .fields fv } → h'.Ns1 dx (fun y => if y = name then some v else none) → R (.ok (.ret .none)) ⟨h', g, d, tk', os⟩) :
    codeAny (model prog w) A (.call (.builtin "object.__setattr__") ⟨[.ref x, .str name tk, v], []⟩) R ⟨hp, g, d, t, os⟩ := by
  have I : PySem.W.InstAt hp x { cls := .ref C, data := .fields fv } C none := ⟨hx, rfl, rfl, trivial⟩
  have SF := F.store_object
  have tl' : refsT b.tail cd.mro = true := by rw [em]; exact tl
  have nn : cd.mro.isEmpty = false := by rw [em]; rfl
  have ob : cd.mro.contains (.type "object") = true := (refsT_has "object" _ tl').trans B.ob
  have xs : x ≠ hp.objs.size := Nat.ne_of_lt (Heap.lt_size hx)
  have sub : PySem.W.Looks (model prog w) hp (isInstance (.ref x) (.type "object")) true := I.type.andThen (PySem.W.looks_mroIn X (by unfold PySem.W.mroIn; rw [hcd, Option.bind_some, if_neg (by rw [nn]; decide), ob]))
  refine codeAny_call_builtin SF.slot.plain SF.entry (@PySem.W.check_slot (model prog w) _ _ ⟨hp, g, d, t, os⟩ "object.__setattr__" "object" "__setattr__" (.ref x) [.str name tk, v] [] _ SF.kind SF.split sub (SF.args (.ref x) (.str name tk) v) ?_)
  have mr : PySem.W.Looks (model prog w) hp (mroOf (.ref C)) cd.mro := (PySem.W.looks_clsIn X hcd).andThen .now
  have l3 : PySem.W.Looks (model prog w) hp (storeTaker? none) none := .now
  have lc : PySem.W.Looks (model prog w) hp (classData C) cd := PySem.W.looks_clsIn X hcd
  rw [PySem.W.osa_eq, refuse_eq]
  refine wpAny_bind (wpAny_bind (I.type.at (wpAny_bind (mr.at ?_))))
  rw [refsT_pass (B.pass _) _ tl']
  refine wpAny_pure (wpAny_bind (I.type.at (wpAny_bind ((PySem.W.looks_findIn X ha).at (wpAny_bind (l3.at ?_))))))
  show wpAny _ _ (storeInOwnDict (.ref x) (.ref C) (.str name tk) name v false) _ _ _
  clear mr em tl' nn ob
  obtain ⟨nm, bs, mro, ns, qn, hd, sn, sb, ab, col, del⟩ := cd
  dsimp only at hh
  subst hh
  unfold storeInOwnDict ownDictForStores
  repeat (first | with_reducible refine store_in_new ?_ ?_ | with_reducible refine wpAny_loadPart_at hx ?_ | with_reducible refine lc.at ?_ | wp_step)
  · exact ⟨_, #[], _, (Heap.get?_update_ne _ _ _ _ xs.symm).trans (Heap.get?_push_at rfl rfl), rfl, fun e he => absurd he (by simp), fun _ => rfl⟩
  · intro h' tk' hn' hs
    have hx1 : (hp.push { cls := .type "dict", data := .dict #[] }).get? x = some { cls := .ref C, data := .fields fv } := Heap.get?_push_of_some _ hx
    refine z h' tk' hp.objs.size (fun y o hy ho => ?_) (Nat.le_refl _) xs.symm ?_ hn'
    · exact (hs.2 y (Nat.ne_of_lt (Heap.lt_size ho))).trans ((Heap.get?_update_ne _ _ _ _ hy).trans (Heap.get?_push_of_some _ ho))
    · exact (hs.2 x xs).trans (Heap.get?_update_self _ hx1 rfl)
theorem osaO {K : PySem.W.Frag} {name : Str} {tk : Tok} {v : Value} {x C dx : Addr} {fv : Array Value} {cd : ClassData} {bm : List Value} {m0 : Str → Option Value} {nl : List Str} (B : XbOk b) (X : K.In hp) (hx : hp.get? x = some { cls := .ref C, dict := some dx, data := .fields fv }) (hns : hp.Ns1 dx m0) (hw : Within m0 nl) (hz : nl.length ≤ 1000)
    (hcd : PySem.W.clsIn K C = some cd) (em : cd.mro = .ref C :: bm) (tl : refsT b.tail bm = true) (hh : cd.hasDict = true) (ha : PySem.W.findIn K (.ref C) name = some none)
    (z : ∀ h' tk', (∀ y o, y ≠ dx → hp.get? y = some o → h'.get? y = some o) → h'.Ns1 dx (fun y => if y = name then some v else m0 y) → R (.ok (.ret .none)) ⟨h', g, d, tk', os⟩) :
    codeAny (model prog w) A (.call (.builtin "object.__setattr__") ⟨[.ref x, .str name tk, v], []⟩) R ⟨hp, g, d, t, os⟩ := by
  obtain ⟨oD, esD, epD, hoD, hdD, _⟩ := hns.count hw
  have I : PySem.W.InstAt hp x { cls := .ref C, dict := some dx, data := .fields fv } C (some oD) := ⟨hx, rfl, rfl, hoD⟩
  have SF := F.store_object
  have tl' : refsT b.tail cd.mro = true := by rw [em]; exact tl
  have nn : cd.mro.isEmpty = false := by rw [em]; rfl
  have ob : cd.mro.contains (.type "object") = true := (refsT_has "object" _ tl').trans B.ob
  have sub : PySem.W.Looks (model prog w) hp (isInstance (.ref x) (.type "object")) true := I.type.andThen (PySem.W.looks_mroIn X (by unfold PySem.W.mroIn; rw [hcd, Option.bind_some, if_neg (by rw [nn]; decide), ob]))
  refine codeAny_call_builtin SF.slot.plain SF.entry (@PySem.W.check_slot (model prog w) _ _ ⟨hp, g, d, t, os⟩ "object.__setattr__" "object" "__setattr__" (.ref x) [.str name tk, v] [] _ SF.kind SF.split sub (SF.args (.ref x) (.str name tk) v) ?_)
  have mr : PySem.W.Looks (model prog w) hp (mroOf (.ref C)) cd.mro := (PySem.W.looks_clsIn X hcd).andThen .now
  have l3 : PySem.W.Looks (model prog w) hp (storeTaker? none) none := .now
  have lc : PySem.W.Looks (model prog w) hp (classData C) cd := PySem.W.looks_clsIn X hcd
  rw [PySem.W.osa_eq, refuse_eq]
  refine wpAny_bind (wpAny_bind (I.type.at (wpAny_bind (mr.at ?_))))
  rw [refsT_pass (B.pass _) _ tl']
  refine wpAny_pure (wpAny_bind (I.type.at (wpAny_bind ((PySem.W.looks_findIn X ha).at (wpAny_bind (l3.at ?_))))))
  show wpAny _ _ (storeInOwnDict (.ref x) (.ref C) (.str name tk) name v false) _ _ _
  clear mr em tl' nn ob
  obtain ⟨nm, bs, mro, ns, qn, hd, sn, sb, ab, col, del⟩ := cd
  dsimp only at hh
  subst hh
  unfold storeInOwnDict ownDictForStores
  repeat (first | with_reducible refine PySem.OEX.store_in_old hns hw hz ?_ | with_reducible refine wpAny_loadPart_at hx ?_ | with_reducible refine lc.at ?_ | wp_step)
  intro h' tk' hn' hs
  exact z h' tk' (fun y o hy ho => (hs.2 y hy).trans ho) hn'
end
end Wn

namespace Wn
open PySem PySem.Spec PyProof.Rows L2
open PySem.Calls PySem.HandSPX
section
variable {X : Cx} {pins : List (Addr × Obj)} {σ : L2.St} {H : Hp} {s : Shared} {a C dx : Addr} {f : Str} {y : V} {u : Value} {fs : List (Str × V)} {Q : Unit → Shared → Prop} {E : Value → Shared → Prop} {A : Around} {b : Xb}
theorem XC.cd {K : PySem.W.Frag} (T : XC b K C) : ∃ cd bm, PySem.W.clsIn K C = some cd ∧ cd.mro = .ref C :: bm ∧ refsT b.tail bm = true ∧ cd.hasDict = true := by
  obtain ⟨nm, q, N, bs, bm, sn, sub, ab, col, dd, k0, k1, k2, k3, k5, hC, tl⟩ := T.cls
  exact ⟨{ name := nm, bases := bs, mro := .ref C :: bm, ns := N, qualname := q, hasDict := true, slotNames := sn, subclasses := sub, abstract := ab, collection := col, hasDel := false }, bm, by unfold PySem.W.clsIn; rw [hC] <;> rfl, rfl, tl, rfl⟩
/-- self.f = y, the first field -/
theorem stN (T : XC b X.K C) (I : Inv X pins σ H s) (e : H a = some (exo a C none)) (no : PySem.W.findIn X.K (.ref C) f = some none) (ry : RelV y u) (z : ∀ dx s', H dx = none → dx ≠ a → Inv X pins σ (upd (upd H dx (exd dx [(f, y)])) a (exo a C (some dx))) s' → Q () s') :
    wpAny (model X.prog X.w) A (setAttr (.ref a) f u) Q E s := by
  obtain ⟨cd, bm, hcl, em, tl, hd⟩ := T.cd
  obtain ⟨t1, ho⟩ := exo_at I.hok e
  obtain ⟨hp, g, d, t, os⟩ := s
  refine PySem.W.set_plain I.kIn (ox := { cls := .ref C, dict := none, data := .fields #[.ref t1, .none, .none, .none, .bool false, .none] }) (od := none) ⟨ho, rfl, rfl, trivial⟩ T.sa ?_
  refine osaN T.ok I.kIn ho hcl em tl hd no (fun h' tk' dx k dn ne hx hn => ?_)
  have n0 : H dx = none := I.hok.fresh dn
  have nd : ∀ {c : Addr} {o : Obj}, hp.get? c = some o → c ≠ dx := fun {c o} q => Nat.ne_of_lt (Nat.lt_of_lt_of_le (Heap.lt_size q) dn)
  have na : ∀ {c : Addr}, H c = none → c ≠ a := fun {c} n w => by
    rw [w, e] at n
    cases n
  have un : Un X.fs [] H (upd (upd H dx (exd dx [(f, y)])) a (exo a C (some dx))) hp h' := {
    keep := fun c o q n _ _ => k c o (na n) q
    slot := fun c o q n _ _ => ⟨o.slots, k c o (na n) q⟩
    free := fun c o q n _ => by rw [upd_ne (na n), upd_ne (nd q)]; exact n
    there := fun c o q _ => by
      by_cases hc : c = a
      · exact ⟨_, by rw [hc]; exact hx⟩
      · exact ⟨o, k c o hc q⟩
    tups := fun c xs q => by rw [upd_ne (at_ne e q exo_tup), upd_ne (ne_of_none q n0)]; exact q
    frzs := fun c o v q => by rw [upd_ne (at_ne e q exo_frz), upd_ne (ne_of_none q n0)]; exact q
    tbls := fun c ps q => ⟨#[], by rw [upd_ne (at_ne e q exo_tbl), upd_ne (ne_of_none q n0), q]; simp⟩ }
  refine z dx _ n0 ne (I.un (t' := tk') un fun c o q => ?_)
  by_cases hc : c = a
  · subst hc
    rw [upd_same] at q
    cases q
    exact exo_ok hx
  rw [upd_ne hc] at q
  by_cases hd : c = dx
  · subst hd
    rw [upd_same] at q
    cases q
    exact exd_ok hn (relO_put (fs := []) ry fun g => True.intro)
  rw [upd_ne hd] at q
  refine (I.hok c o q).stay (fun x v hx' w => k x v ?_ w) (fun x hx' => ?_) (fun x xs hx' => ?_)
  · rcases hx' with hx' | hx'
    · rw [hx']; exact hc
    · exact at_ne e hx' exo_own
  · rw [upd_ne (at_ne e hx' exo_own), upd_ne (ne_of_none hx' n0)]; exact hx'
  · rw [upd_ne (at_ne e hx' exo_tup), upd_ne (ne_of_none hx' n0)]; exact hx'
/-- self.f = y, a further field -/
theorem stO (T : XC b X.K C) (I : Inv X pins σ H s) (e : H a = some (exo a C (some dx))) (ed : H dx = some (exd dx fs)) (hl : fs.length ≤ 900) (no : PySem.W.findIn X.K (.ref C) f = some none) (ry : RelV y u) (z : ∀ s', Inv X pins σ (upd H dx (exd dx ((f, y) :: fs))) s' → Q () s') :
    wpAny (model X.prog X.w) A (setAttr (.ref a) f u) Q E s := by
  obtain ⟨cd, bm, hcl, em, tl, hd⟩ := T.cd
  obtain ⟨t1, ho⟩ := exo_at I.hok e
  obtain ⟨mA, hns, rel⟩ := exd_at I.hok ed
  have hw := within_of rel
  obtain ⟨hp, g, d, t, os⟩ := s
  obtain ⟨oD, _, _, hoD, _, _⟩ := hns.count hw
  refine PySem.W.set_plain I.kIn (ox := { cls := .ref C, dict := some dx, data := .fields #[.ref t1, .none, .none, .none, .bool false, .none] }) (od := some oD) ⟨ho, rfl, rfl, hoD⟩ T.sa ?_
  refine osaO T.ok I.kIn ho hns hw (by rw [List.length_map]; omega) hcl em tl hd no (fun h' tk' k hn => ?_)
  have th : ∃ o, h'.get? dx = some o := let ⟨o, _, _, e', _⟩ := hn; ⟨o, e'⟩
  exact z _ (I.write (t' := tk') (x := dx) (e := dx) (o := exd dx ((f, y) :: fs)) (by rw [ed]; exact True.intro) (.inl rfl) k th (exd_ok hn (relO_put ry rel)))
/-- Base.__init__(self, ..): nothing of it is told -/
theorem inX {us : List Value} {Q : Value → Shared → Prop} (T : XC b X.K C) (I : Inv X pins σ H s) (e : H a = some (exo a C none)) (hl : us.length ≤ sizeLine) (z : ∀ s', Inv X pins σ H s' → Q .none s') : wpAny (model X.prog X.w) A (call (.builtin b.initId) (.ref a :: us)) Q E s := by
  obtain ⟨nm, q, N, bs, bm, sn, sub, ab, col, dd, k0, k1, k2, k3, k5, hC, tl⟩ := T.cls
  obtain ⟨t1, ho⟩ := exo_at I.hok e
  obtain ⟨hp, g, d, t, os⟩ := s
  refine wpAny_call (init_x T.ok tl (I.kIn _ _ hC) ho hl fun h' t2 k hx => ?_)
  have J := I.write (t' := t) (x := a) (e := a) (o := exo a C none) (by rw [e]; exact True.intro) (.inl rfl) k ⟨_, hx⟩ (exo_ok hx)
  have eu : upd H a (exo a C none) = H := by
    funext c
    by_cases hc : c = a
    · rw [hc, upd_same, e]
    · rw [upd_ne hc]
  rw [eu] at J
  exact z _ J
end
/-! ### readings and rules -/
/-- Base.__init__(self, ..) -/
def tIn (b : Xb) (K : PySem.W.Frag) (ta : TA) : TE := fun σ H Q => ta σ H fun vs H1 => ∃ (a C : Addr) (ws : List V), vs = .ref a :: ws ∧ ws.length ≤ 1000 ∧ XC b K C ∧ H1 a = some (exo a C none) ∧ Q .non H1
/-- self.f = e -/
def tSt (b : Xb) (K : PySem.W.Frag) (f : Str) (to te : TE) : TS := fun D σ H => te σ H fun y H1 => to σ H1 fun x H2 => ∃ a C : Addr, x = .ref a ∧ XC b K C ∧ PySem.W.findIn K (.ref C) f = some none ∧
  ((H2 a = some (exo a C none) ∧ ∀ dx, H2 dx = none → dx ≠ a → D.nx σ (upd (upd H2 dx (exd dx [(f, y)])) a (exo a C (some dx)))) ∨
    ∃ (dx : Addr) (fs : List (Str × V)), H2 a = some (exo a C (some dx)) ∧ H2 dx = some (exd dx fs) ∧ fs.length ≤ 900 ∧ D.nx σ (upd H2 dx (exd dx ((f, y) :: fs))))
/-- C(..) as a value, its own __init__ keeping sp; gV: the values in the order of the parameters -/
def tMk (C : Addr) (sp : Sp) (gV : List V → List V) (ta : TA) : TE := fun σ H Q => ta σ H fun vs H1 => vs.length ≤ 1000 ∧ ∀ a, H1 a = none → sp (.ref a :: gV vs) (upd H1 a (exo a C none)) (fun v H2 => v = .non ∧ Q (.ref a) H2) (fun _ _ _ => False)
section
variable {X : Cx} {o e : Expr} {es : List Expr} {to te : TE} {ta : TA} {f x : Str} {p p' p1 p2 pos : Pos} {b : Xb}
theorem pe_inB {pl : Sem Bool} (hg : Gl X x) (hm : X.mg x = none) (hv : bootBuiltins x = some (.type b.iB)) (ty : typeOf (.type b.iB) = pure (.type "type")) (st : Manifest.isStub b.iB = false) (vV : PySem.W.findCls X.K (.type b.iB) (.type "type") "__init__" = some (.val (.builtin b.initId))) (hand : PySem.W.handedIn (.builtin b.initId) = true) (ha : PA X (e :: es) ta)
    (hc : eval (.Call (.Attribute (.Name x p1) "__init__" p2) (e :: es) [] pos) X.env = (do
      let c ← eval (.Name x p1) X.env
      standAt p2.atName
      let (g, first) ← holding [c] (getMethod c "__init__" pl)
      callWith pos g first (backTo pos (starEach (e :: es) X.env)) (backToKw pos (keywordEach [] X.env))) := by rfl)
    (hn : x ≠ "__name__" := by decide) (hdb : (x == ("__debug__" : Str)) = false := by decide) (he : starEach (e :: es) X.env = (false, eval e X.env) :: starEach es X.env := by rfl) (hpl : (backTo pos (starEach es X.env)).any (·.1) = false := by rfl) :
    PE X (.Call (.Attribute (.Name x p1) "__init__" p2) (e :: es) [] pos) (tIn b X.K ta) := by
  refine ⟨fun pins s σ H Q I h => PySem.W.methodCall_KW (ld_blt I hg hm hv ?_ hn hdb) hc⟩
  obtain ⟨m, fr⟩ := I.fr
  refine PySem.W.method_type fr I.ok.mod.kin ty st vV hand ?_
  show wpAny _ _ (callWith pos (Value.builtin b.initId) [] (backTo pos (starEach (e :: es) X.env)) []) _ _ _
  refine PyProof.Rows.callWith_method1 (thn (ha.run pos pins _ σ H _ (I.tok _) h) fun us s1 hu => ?_) he hpl
  obtain ⟨vs, H1, J, rv, a, C, ws, rfl, hl, T, ea, q⟩ := hu
  cases rv with
  | @cons _ u0 _ ur ra rr =>
    cases (show u0 = Value.ref a from ra)
    refine inX T J ea ?_ fun s' J' => ⟨.non, H1, J', rfl, q⟩
    rw [← Paired.length rr]
    exact Nat.le_of_lt (small1000 hl)
theorem pe_inO {pl : Sem Bool} {D : Addr} {mc : Value} (hg : Gl X x) (hm : X.mg x = some (.ref D)) (hr : PySem.W.readsIn X.K D mc = true) (hs : PySem.W.specialIn X.K (.ref D) "__getattribute__" = some (some (.builtin "type.__getattribute__")))
    (vV : PySem.W.findCls X.K (.ref D) mc "__init__" = some (.val (.builtin b.initId))) (hand : PySem.W.handedIn (.builtin b.initId) = true) (ha : PA X (e :: es) ta)
    (hc : eval (.Call (.Attribute (.Name x p1) "__init__" p2) (e :: es) [] pos) X.env = (do
      let c ← eval (.Name x p1) X.env
      standAt p2.atName
      let (g, first) ← holding [c] (getMethod c "__init__" pl)
      callWith pos g first (backTo pos (starEach (e :: es) X.env)) (backToKw pos (keywordEach [] X.env))) := by rfl)
    (hd : (x == ("__debug__" : Str)) = false := by decide) (he : starEach (e :: es) X.env = (false, eval e X.env) :: starEach es X.env := by rfl) (hpl : (backTo pos (starEach es X.env)).any (·.1) = false := by rfl) :
    PE X (.Call (.Attribute (.Name x p1) "__init__" p2) (e :: es) [] pos) (tIn b X.K ta) := by
  refine ⟨fun pins s σ H Q I h => PySem.W.methodCall_KW (ld_glob I hg hm ?_ hd) hc⟩
  refine PySem.W.method_cls I.kIn hs (PySem.W.cls_value I.kIn hr vV hand ?_)
  show wpAny _ _ (callWith pos (Value.builtin b.initId) [] (backTo pos (starEach (e :: es) X.env)) []) _ _ _
  refine PyProof.Rows.callWith_method1 (thn (ha.run pos pins _ σ H _ (I.tok _) h) fun us s1 hu => ?_) he hpl
  obtain ⟨vs, H1, J, rv, a, C, ws, rfl, hl, T, ea, q⟩ := hu
  cases rv with
  | @cons _ u0 _ ur ra rr =>
    cases (show u0 = Value.ref a from ra)
    refine inX T J ea ?_ fun s' J' => ⟨.non, H1, J', rfl, q⟩
    rw [← Paired.length rr]
    exact Nat.le_of_lt (small1000 hl)
theorem ps_st (ho : PE X o to) (he : PE X e te) (hs : swapsWith e (some (.Attribute o f p')) pos.line X.env = pure false := by rfl) : PS X (.Assign [.Attribute o f p'] e pos) (tSt b X.K f to te) := by
  refine ⟨fun pins s σ H D I h => plainObj_wpAny_Assign_Attribute (thn (he.run pins s σ H _ I h) fun v s1 ⟨y, H1, I1, r1, q1⟩ => thn (ho.run pins s1 σ H1 _ I1 q1) fun u s2 hu => ?_) hs⟩
  obtain ⟨x, H2, I2, r2, a, C, ex, T, no, q⟩ := hu
  subst ex
  cases (show u = Value.ref a from r2)
  rcases q with ⟨ea, q⟩ | ⟨dx, fs, ea, ed, hl, q⟩
  · exact stN T I2 ea no r1 fun dx s' n ne J => ⟨σ, _, J, q dx n ne⟩
  · exact stO T I2 ea ed hl no r1 fun s' J => ⟨σ, _, J, q⟩
/-- the error is made and its __init__ runs -/
theorem run_mk {pins : List (Addr × Obj)} {σ : L2.St} {H : Hp} {s : Shared} {Q : VK} {us up : List Value} {wp : List V} {kw : List (Str × Value)} {C fI : Addr} {k : Nat} {fd : FuncData} {ps : List Str} {sp : Sp} (T : XC b X.K C) (iC : PySem.W.findIn X.K (.ref C) "__init__" = some (some (.ref fI))) (tI : PySem.W.typeIn X.K (.ref fI) = some (.type "function"))
    (F : FnG X.prog X.w X.K X.mg X.base k fI fd ps sp) (hr : Room (k + 1) X.A) (hG : X.A.guards = some []) (I : Inv X pins σ H s) (rv : Vals wp up) (small : us.length ≤ sizeLine) (hb : ∀ (s : Shared) (self : Value), X.K.In s.heap → BindsTo s fd ⟨self :: us, kw⟩ (ps.zip (self :: up)))
    (h : ∀ a, H a = none → sp (.ref a :: wp) (upd H a (exo a C none)) (fun v H2 => v = .non ∧ Q (.ref a) H2) (fun _ _ _ => False)) : wpAny (model X.prog X.w) X.A (call (.ref C) us kw) (EP X pins σ Q) X.xe s := by
  obtain ⟨nm, q, N, bs, bm, sn, sub, ab, col, dd, k0, k1, k2, k3, k5, hC, tl⟩ := T.cls
  obtain ⟨hp, g, dr, tk, os⟩ := s
  have big : hp.objs.size ≤ hp.objs.size + 1 := Nat.le_succ _
  have hq := h (hp.objs.size + 1) (I.hok.fresh big)
  have kk : ∀ c o, hp.get? c = some o → ((hp.push (PySem.W.kdv_tup us)).push (excO C hp.objs.size)).get? c = some o := fun c o e => Heap.get?_push_of_some _ (Heap.get?_push_of_some _ e)
  have there : ((hp.push (PySem.W.kdv_tup us)).push (excO C hp.objs.size)).get? (hp.objs.size + 1) = some (excO C hp.objs.size) := by heap_get
  have I2 : Inv X pins σ (upd H (hp.objs.size + 1) (exo (hp.objs.size + 1) C none)) ⟨(hp.push (PySem.W.kdv_tup us)).push (excO C hp.objs.size), g, dr, tk, os⟩ :=
    I.laid (t' := tk) (a := hp.objs.size + 1) (o := exo (hp.objs.size + 1) C none) (h' := (hp.push (PySem.W.kdv_tup us)).push (excO C hp.objs.size)) kk big (exo_ok there)
  have r2 : Vals (V.ref (hp.objs.size + 1) :: wp) (Value.ref (hp.objs.size + 1) :: up) := .cons rfl rv
  refine wpAny_call (call_x T.ok tl (I.kIn _ _ hC) (PySem.W.looks_findIn I.kIn iC) (fun self => PySem.W.bind_fn I.kIn self tI) small
    (codeAny_mono (F.go _ X.stack _ _ ⟨Value.ref (hp.objs.size + 1) :: us, kw⟩ (Value.ref (hp.objs.size + 1) :: up) _ _ (fun _ _ _ => False) (hr.make C us kw) hG (I2.env0.make C us kw) (hb _ _ I2.kIn) r2 hq) fun r s' z => ?_))
  cases r with
  | error _ => exact (show False from z).elim
  | ok fl =>
    cases fl with
    | ret u =>
      obtain ⟨v, H2, I3, rv, ev, q3⟩ := I2.after z
      subst ev
      exact ⟨rv, ⟨V.ref (hp.objs.size + 1), H2, I3, rfl, q3⟩⟩
    | next => exact (show False from z).elim
    | brk => exact (show False from z).elim
    | cont => exact (show False from z).elim
theorem pe_mk {C fI : Addr} {k : Nat} {fd : FuncData} {ps : List Str} {sp : Sp} (T : XC b X.K C) (iC : PySem.W.findIn X.K (.ref C) "__init__" = some (some (.ref fI))) (tI : PySem.W.typeIn X.K (.ref fI) = some (.type "function")) (F : FnG X.prog X.w X.K X.mg X.base k fI fd ps sp) (hr : Room (k + 1) X.A) (hG : X.A.guards = some [])
    (hb : Binds X.K fd ps []) (hg : Gl X x) (hm : X.mg x = some (.ref C)) (ha : PA X (e :: es) ta) (hdb : (x == ("__debug__" : Str)) = false := by decide) (he : starEach (e :: es) X.env = (false, eval e X.env) :: starEach es X.env := by rfl) (hpl : (backTo pos (starEach es X.env)).any (·.1) = false := by rfl) :
    PE X (.Call (.Name x p) (e :: es) [] pos) (tMk C sp id ta) := by
  refine ⟨fun pins s σ H Q I h => wpAny_Call_Name_kw (ld_glob I hg hm ?_ hdb)⟩
  refine PySem.W.callWith_K (h₀ := X.base) I.ok.mod.kin T.kp (thn (ha.run pos pins s σ H _ I h) fun us s1 ⟨vs, H1, I1, r1, hz, q1⟩ => ⟨I1.kIn, ?_⟩) he hpl
  have lu : us.length = vs.length := (Paired.length r1).symm
  show wpAny (model X.prog X.w) X.A (call (.ref C) us []) (EP X pins σ Q) X.xe s1
  refine run_mk T iC tI F hr hG I1 r1 (by rw [lu]; exact Nat.le_of_lt (small1000 hz)) (fun s' self kin => ?_) q1
  have l2 : (self :: us).length = ps.length := by
    have l3 := F.len _ _ _ _ (q1 (s1.heap.objs.size) (I1.hok.fresh (Nat.le_refl _)))
    have l3 : (V.ref s1.heap.objs.size :: vs).length = ps.length := l3
    rw [← l3, List.length_cons, List.length_cons, lu]
  have nn : (self :: us) ++ [] = self :: us := List.append_nil _
  have bb := hb s' (self :: us) kin (by rw [nn]; exact l2)
  rw [nn] at bb
  exact bb
/-- keywords alone -/
theorem pe_mkK {kws : List Keyword} {ks : List Str} {gU : List Value → List Value} {gV : List V → List V} {C fI : Addr} {k : Nat} {fd : FuncData} {ps : List Str} {sp : Sp} (T : XC b X.K C) (iC : PySem.W.findIn X.K (.ref C) "__init__" = some (some (.ref fI))) (tI : PySem.W.typeIn X.K (.ref fI) = some (.type "function"))
    (F : FnG X.prog X.w X.K X.mg X.base k fI fd ps sp) (hr : Room (k + 1) X.A) (hG : X.A.guards = some []) (hg : Gl X x) (hm : X.mg x = some (.ref C)) (hb : ∀ (s : Shared) (self : Value) (ws : List Value), X.K.In s.heap → ws.length = ks.length → BindsTo s fd ⟨[self], ks.zip ws⟩ (ps.zip (self :: gU ws)))
    (hv : ∀ {vs : List V} {ws : List Value}, Vals vs ws → vs.length = ks.length → Vals (gV vs) (gU ws)) (hkw : PK X kws ta) (hall : (backToKw pos (keywordEach kws X.env)).all (·.1.isSome) = true := by rfl) (hks : (backToKw pos (keywordEach kws X.env)).filterMap (·.1) = ks := by rfl)
    (hdb : (x == ("__debug__" : Str)) = false := by decide) (hpl : ((backTo pos (starEach [] X.env)).any (·.1) || (backToKw pos (keywordEach kws X.env)).any (·.1.isNone)) = false := by rfl) :
    PE X (.Call (.Name x p) [] kws pos) (fun σ H Q => ta σ H fun vs H1 => vs.length = ks.length ∧ ∀ a, H1 a = none → sp (.ref a :: gV vs) (upd H1 a (exo a C none)) (fun v H2 => v = .non ∧ Q (.ref a) H2) (fun _ _ _ => False)) := by
  refine ⟨fun pins s σ H Q I h => wpAny_Call_Name_kw (ld_glob I hg hm ?_ hdb)⟩
  refine PySem.W.callWith_KW0 (h₀ := X.base) I.ok.mod.kin T.kp hall (thn (hkw.run pos pins s σ H _ I h) fun ws s2 ⟨vs, H2, I2, rz, lv, q⟩ => ⟨I2.kIn, ?_⟩) hpl
  rw [hks]
  exact run_mk T iC tI F hr hG I2 (hv rz lv) (Nat.zero_le _) (fun s' self kin => hb s' self ws kin (rz.length.symm.trans lv)) q
end
end Wn

namespace Wn
open PySem PySem.Spec PyProof.Rows L2
open PySem.Calls PySem.HandSPX
/-! ### errors as data -/
def fmOk (d : D) : Bool := shownOk d && (match d with
  | .str y => decide (y.length ≤ 1000)
  | _ => true)
theorem fmOk_str {d : D} (h : fmOk d = true) : ∀ y, d = .str y → y.length ≤ 1000 := fun y e => by
  subst e
  exact of_decide_eq_true (Bool.and_eq_true_iff.mp h).2
theorem DtF.rev {K : PySem.W.Frag} {H : Hp} : ∀ {fs gs : List (Str × V)} {ds es : List (D × D)}, DtF K H fs ds → DtF K H gs es → DtF K H (fs.reverse ++ gs) (ds.reverse ++ es)
  | [], _, _, _, h, g => by cases h; exact g
  | _ :: _, _, _, _, h, g => by
    cases h with
    | cons a r =>
      rw [List.reverse_cons, List.reverse_cons, List.append_assoc, List.append_assoc]
      exact r.rev (.cons a g)
theorem dtF_zip {K : PySem.W.Frag} {H : Hp} : ∀ {ns : List Str} {ws : List V} {ds : List D}, DtAll K H ws ds → DtF K H (ns.zip ws) ((ns.map PyData.str).zip ds)
  | [], _, _, _ => .nil
  | _ :: _, _, [], h => by cases h; exact .nil
  | n :: ns, _, d :: ds, h => by
    cases h with
    | cons a r => exact .cons a (dtF_zip r)
def lookD (f : Str) : List (D × D) → Option D
  | [] => none
  | (k, d) :: r => match k with
    | .str y => if f = y then some d else lookD f r
    | _ => none
theorem lookD_some {K : PySem.W.Frag} {H : Hp} {f : Str} {d : D} : ∀ {fs : List (Str × V)} {ds : List (D × D)}, DtF K H fs ds → lookD f ds = some d → ∃ v, fs.lookup f = some v ∧ Dt K H v d
  | [], _, h, e => by cases h; cases e
  | (y, v) :: r, _, h, e => by
    cases h with
    | @cons _ _ _ d' ds a h =>
      have e : (if f = y then some d' else lookD f ds) = some d := e
      by_cases q : f = y
      · rw [if_pos q] at e
        cases e
        exact ⟨v, by rw [lookup_put, if_pos q], a⟩
      · rw [if_neg q] at e
        obtain ⟨w, g1, g2⟩ := lookD_some h e
        exact ⟨w, by rw [lookup_put, if_neg q]; exact g1, g2⟩
/-- what an own __init__ promises: the fields, the last one first -/
def spI (K : PySem.W.Frag) (C : Addr) (ns : List Str) (ok : List D → Bool) : Sp := fun vs H Q _ => Sy H ∧ ∃ (a : Addr) (ws : List V) (ds : List D), vs = .ref a :: ws ∧ ws.length = ns.length ∧ H a = some (exo a C none) ∧ DtAll K H ws ds ∧ ok ds = true ∧
  ∀ dx, H dx = none → dx ≠ a → Q .non (upd (upd H dx (exd dx (ns.zip ws).reverse)) a (exo a C (some dx)))
/-- a class with an own __init__ -/
structure Ec (P : Program) (w : World) (K : PySem.W.Frag) (mg : Str → Option Value) (base : Heap) (x qual : Str) (st : Stmt) (b : Xb) (k : Nat) (ns : List Str) (ok : List D → Bool) : Prop where
  ex : ∃ (C fI : Addr) (fd : FuncData), XC b K C ∧ PySem.W.nsIn K mainGlobals x = some (some (.ref C)) ∧ mg x = some (.ref C) ∧ PySem.W.findIn K (.ref C) "__init__" = some (some (.ref fI)) ∧ PySem.W.typeIn K (.ref fI) = some (.type "function") ∧ Fun K "__init__" qual st fI fd ∧
    FnG P w K mg base k fI fd ("self" :: ns) (spI K C ns ok) ∧ Binds K fd ("self" :: ns) []
/-- a class without one -/
structure Ez (K : PySem.W.Frag) (mg : Str → Option Value) (x : Str) : Prop where
  ex : ∃ (C : Addr) (B newId initId : String) (bmB : List Value), ExcBaseFacts B newId initId bmB ∧ PySem.W.excIn K C bmB newId = true ∧ PySem.W.nsIn K mainGlobals x = some (some (.ref C)) ∧ mg x = some (.ref C) ∧ PySem.W.keepIn K (.ref C) = true
def mkD (x : Str) (ns : List Str) (ok : List D → Bool) (r : List D) : Option D := if r.length = ns.length ∧ r.length ≤ 1000 ∧ ok r = true then some (.dict ((.none, .str x) :: ((ns.map PyData.str).zip r).reverse)) else none
section
variable {X : Cx} {e a b c : Expr} {es : List Expr} {pos p : Pos} {ga gb : En → Option D} {gl : En → Option (List D)} {x qual : Str} {st : Stmt} {B : Xb} {ns : List Str} {ok : List D → Bool} {j k : Nat}
/-- the wish of one that is made, from the data's -/
theorem mk_wish {C : Addr} {H : Hp} {Q : VK} {ws : List V} {ds : List D} {d : D} (nx : PySem.W.nsIn X.K mainGlobals x = some (some (.ref C))) (sy : Sy H) (all : DtAll X.K H ws ds) (z : mkD x ns ok ds = some d) (q : Gives X.K H d Q) (a : Addr) (na : H a = none) :
    spI X.K C ns ok (.ref a :: ws) (upd H a (exo a C none)) (fun v H2 => v = .non ∧ Q (.ref a) H2) (fun _ _ _ => False) := by
  unfold mkD at z
  by_cases hc : ds.length = ns.length ∧ ds.length ≤ 1000 ∧ ok ds = true
  · rw [if_pos hc] at z
    cases z
    obtain ⟨l1, _, ho⟩ := hc
    have s1 := same_new (o := exo a C none) na
    refine ⟨sy.on s1, a, ws, ds, rfl, by rw [all.len]; exact l1, upd_same, all.on s1, ho, fun dx nd ne => ⟨rfl, ?_⟩⟩
    have n0 : H dx = none := by rw [upd_ne ne] at nd; exact nd
    have sm : Same H (upd (upd (upd H a (exo a C none)) dx (exd dx (ns.zip ws).reverse)) a (exo a C (some dx))) := fun y o e => by
      rw [upd_ne (ne_of_none e na), upd_ne (ne_of_none e n0), upd_ne (ne_of_none e na)]
      exact e
    refine q _ _ sm (.exc nx upd_same (by rw [upd_ne ne, upd_same]) ?_)
    have r := (dtF_zip (ns := ns) all).rev .nil
    rw [List.append_nil, List.append_nil] at r
    exact r.on sm
  · rw [if_neg hc] at z
    cases z
theorem mkD_len {r : List D} {d : D} (z : mkD x ns ok r = some d) : r.length = ns.length ∧ r.length ≤ 1000 := by
  unfold mkD at z
  by_cases hc : r.length = ns.length ∧ r.length ≤ 1000 ∧ ok r = true
  · exact ⟨hc.1, hc.2.1⟩
  · rw [if_neg hc] at z
    cases z
theorem p_mk (c : Ec X.prog X.w X.K X.mg X.base x qual st B j ns ok) (hr : Room k X.A) (hj : j + 1 ≤ k) (hG : X.A.guards = some []) (hg : Gl X x) (ha : PA X (e :: es) (tL X.K gl)) (hdb : (x == ("__debug__" : Str)) = false := by decide)
    (he : starEach (e :: es) X.env = (false, eval e X.env) :: starEach es X.env := by rfl) (hpl : (backTo pos (starEach es X.env)).any (·.1) = false := by rfl) : PE X (.Call (.Name x p) (e :: es) [] pos) (tP X.K fun δ => (gl δ).bind (mkD x ns ok)) := by
  obtain ⟨C, fI, fd, T, nx, hm, iC, tI, U, F, hb⟩ := c.ex
  refine imp (pe_mk T iC tI F (hr.mono hj) hG hb hg hm ha hdb he hpl) fun σ H Q ⟨δ, d, er, z, q⟩ => ?_
  obtain ⟨r, e1, z⟩ := bnd z
  refine ⟨δ, r, er, e1, fun ws H1 s1 all => ⟨by rw [all.len]; exact (mkD_len z).2, fun a na => mk_wish nx (er.sy.on s1) all z (q.on s1) a na⟩⟩
/-- keywords alone -/
theorem p_mkK {kws : List Keyword} {ks : List Str} {perm : List D → Option (List D)} {wp : List V → List V} {up : List Value → List Value} (c : Ec X.prog X.w X.K X.mg X.base x qual st B j ns ok) (hr : Room k X.A) (hj : j + 1 ≤ k) (hG : X.A.guards = some []) (hg : Gl X x)
    (hb : ∀ (kV doc pm : Value) (an : Option Addr) (cdv ct self : Value) (ws : List Value), ws.length = ks.length → bindArgs (PySem.W.fnOf "__init__" qual (defArgs st) (defBody st) (defScope st) .none kV doc pm an cdv ct) ⟨[self], ks.zip ws⟩ = pure ((("self" : Str) :: ns).zip (self :: up ws)))
    (hv : ∀ {vs : List V} {ws : List Value}, Vals vs ws → vs.length = ks.length → Vals (wp vs) (up ws)) (hd : ∀ {H : Hp} {vs : List V} {ds es : List D}, DtAll X.K H vs ds → perm ds = some es → vs.length = ks.length ∧ DtAll X.K H (wp vs) es)
    (hkw : PK X kws (tL X.K gl)) (hall : (backToKw pos (keywordEach kws X.env)).all (·.1.isSome) = true := by rfl) (hks : (backToKw pos (keywordEach kws X.env)).filterMap (·.1) = ks := by rfl)
    (hdb : (x == ("__debug__" : Str)) = false := by decide) (hpl : ((backTo pos (starEach [] X.env)).any (·.1) || (backToKw pos (keywordEach kws X.env)).any (·.1.isNone)) = false := by rfl) :
    PE X (.Call (.Name x p) [] kws pos) (tP X.K fun δ => (gl δ).bind fun r => (perm r).bind (mkD x ns ok)) := by
  obtain ⟨C, fI, fd, T, nx, hm, iC, tI, U, F, _⟩ := c.ex
  refine imp (pe_mkK (gV := wp) (gU := up) T iC tI F (hr.mono hj) hG hg hm (fun s self ws kin hl => ?_) hv hkw hall hks hdb hpl) fun σ H Q ⟨δ, d, er, z, q⟩ => ?_
  · obtain ⟨c0, d0, kV, doc, pm, an, cdv, ct, s0, rfl, lk, hcd⟩ := U.ex
    exact .of_eq (hb kV doc pm an cdv ct self ws hl)
  · obtain ⟨r, e1, z⟩ := bnd z
    obtain ⟨r', e2, z⟩ := bnd z
    refine ⟨δ, r, er, e1, fun ws H1 s1 all => ?_⟩
    obtain ⟨lv, all'⟩ := hd all e2
    exact ⟨lv, fun a na => mk_wish nx (er.sy.on s1) all' z (q.on s1) a na⟩
theorem p_exz (c : Ez X.K X.mg x) (hg : Gl X x) (he : PE X e (tP X.K ga)) (hs : starEach [e] X.env = (false, eval e X.env) :: starEach [] X.env := by rfl) (hdb : (x == ("__debug__" : Str)) = false := by decide) : PE X (.Call (.Name x p) [e] [] pos) (tP X.K fun δ => (ga δ).bind fun _ => some (.dict [(.none, .str x)])) := by
  obtain ⟨C, B, newId, initId, bmB, F, q0, nx, hm, kp⟩ := c.ex
  refine imp (pe_exc1 F q0 hm kp hg he hs hdb) fun σ H Q ⟨δ, d, er, z, q⟩ => ?_
  obtain ⟨d1, e1, z⟩ := bnd z
  cases z
  exact ⟨δ, d1, er, e1, fun v H1 s1 _ a na => q _ _ (s1.trans (same_new na)) (.exz nx upd_same)⟩
/-- e.f of an error that was made -/
def tXo (K : PySem.W.Frag) (n : Str) (te : TE) : TE := fun σ H Q => te σ H fun x H1 => ∃ (a dx C : Addr) (fs : List (Str × V)) (v : V), x = .ref a ∧ XfC K C ∧ PySem.W.findIn K (.ref C) n = some none ∧ H1 a = some (exo a C (some dx)) ∧ H1 dx = some (exd dx fs) ∧ fs.lookup n = some v ∧ Q v H1
theorem pe_xo {n : Str} {te : TE} (he : PE X e te) (hb : attributeBase e n X.env (eval e X.env) = eval e X.env := by rfl) :
    PE X (.Attribute e n pos) (tXo X.K n te) := by
  refine ⟨fun pins s σ H Q I h => attr_of hb (thn (he.run pins s σ H _ I h) fun u s1 hh => ?_)⟩
  obtain ⟨x, H1, I1, rx, a, dx, C, fs, v, rfl, T, no, ea, ed, l, q⟩ := hh
  cases (show u = Value.ref a from rx)
  obtain ⟨t1, ha⟩ := exo_at I1.hok ea
  obtain ⟨mA, hns, hr⟩ := exd_at I1.hok ed
  obtain ⟨od, ho, hl⟩ := lookIn_ns hns
  obtain ⟨u, hu, ru⟩ := RelO.some_of (v := v) (o := mA n) (by rw [← l]; exact hr n)
  have J : PySem.W.InstAt s1.heap a _ C (some od) := ⟨ha, rfl, rfl, ho⟩
  exact HandSPX.exc_get I1.kIn J T.ga T.gg T.exC (PySem.W.findObj_own T.hdC no rfl (by rw [hl, hu])) (handed_of ru) ⟨v, H1, I1.tok _, ru, q⟩
/-- fields that may be asked: of which class, which one -/
def FldT (K : PySem.W.Frag) (tb : List (Str × Str)) : Prop := ∀ q ∈ tb, ∃ C, PySem.W.nsIn K mainGlobals q.1 = some (some (.ref C)) ∧ XfC K C ∧ PySem.W.findIn K (.ref C) q.2 = some none
def fldD (tb : List (Str × Str)) (f : Str) : D → Option D
  | .dict l => match l with
    | (k, y) :: ds => match k, y with
      | .none, .str x => if (x, f) ∈ tb then lookD f ds else none
      | _, _ => none
    | [] => none
  | _ => none
theorem fldD_some {tb : List (Str × Str)} {f : Str} {d z : D} (h : fldD tb f d = some z) : ∃ x ds, d = .dict ((.none, .str x) :: ds) ∧ (x, f) ∈ tb ∧ lookD f ds = some z := by
  cases d <;> first | (cases h; done) | skip
  rename_i l
  cases l with
  | nil => cases h
  | cons p ds =>
    obtain ⟨k, y⟩ := p
    cases k <;> first | (cases h; done) | skip
    cases y <;> first | (cases h; done) | skip
    rename_i x
    have h : (if (x, f) ∈ tb then lookD f ds else none) = some z := h
    by_cases hm : (x, f) ∈ tb
    · rw [if_pos hm] at h
      exact ⟨x, ds, rfl, hm, h⟩
    · rw [if_neg hm] at h
      cases h
theorem fld_at {tb : List (Str × Str)} (T : FldT X.K tb) {H : Hp} {v : V} {f : Str} {d z : D} (hv : Dt X.K H v d) (h : fldD tb f d = some z) : ∃ (a dx C : Addr) (fs : List (Str × V)) (w : V), v = .ref a ∧ XfC X.K C ∧ PySem.W.findIn X.K (.ref C) f = some none ∧ H a = some (exo a C (some dx)) ∧ H dx = some (exd dx fs) ∧ fs.lookup f = some w ∧ Dt X.K H w z := by
  obtain ⟨x, ds, rfl, hm, hl⟩ := fldD_some h
  obtain ⟨C, nx, xf, no⟩ := T _ hm
  cases hv with
  | dic s all =>
    cases all
  | exz n s => cases hl
  | exc n s t all =>
    have e := Option.some.inj (Option.some.inj (nx.symm.trans n))
    cases e
    obtain ⟨w, g1, g2⟩ := lookD_some all hl
    exact ⟨_, _, _, _, w, rfl, xf, no, s, t, g1, g2⟩
theorem p_fld {tb : List (Str × Str)} {f : Str} (T : FldT X.K tb) (he : PE X e (tP X.K ga)) (hb : attributeBase e f X.env (eval e X.env) = eval e X.env := by rfl) : PE X (.Attribute e f pos) (tP X.K fun δ => (ga δ).bind (fldD tb f)) :=
  imp (pe_xo he hb) fun σ H Q ⟨δ, d, er, z, q⟩ => by
    obtain ⟨d1, e1, z⟩ := bnd z
    refine ⟨δ, d1, er, e1, fun v H1 s1 dv => ?_⟩
    obtain ⟨a, dx, C, fs, w, rfl, xf, no, h1, h2, h3, dw⟩ := fld_at T dv z
    exact ⟨a, dx, C, fs, w, rfl, xf, no, h1, h2, h3, q _ _ s1 dw⟩
/-! isinstance of an error -/
def ClsT (K : PySem.W.Frag) (cv : Value) (tb : List (Str × Bool)) : Prop := ∀ q ∈ tb, ∃ C, PySem.W.nsIn K mainGlobals q.1 = some (some (.ref C)) ∧ ExcC K C ∧ PySem.W.kitOne K (.ref C) cv = some q.2
def isXD (tb : List (Str × Bool)) : D → Option D
  | .dict l => match l with
    | (k, y) :: _ => match k, y with
      | .none, .str x => (tb.lookup x).bind fun b => some (.bool b)
      | _, _ => none
    | [] => none
  | _ => none
theorem look_mem {α : Type} {x : Str} {v : α} : ∀ {l : List (Str × α)}, l.lookup x = some v → (x, v) ∈ l
  | [], h => by cases h
  | (y, w) :: r, h => by
    by_cases e : x = y
    · subst e
      simp [List.lookup] at h
      subst h
      exact List.mem_cons_self ..
    · have ne : (x == y) = false := by simpa using e
      simp [List.lookup, ne] at h
      exact List.mem_cons_of_mem _ (look_mem h)
theorem isXD_some {tb : List (Str × Bool)} {d z : D} (h : isXD tb d = some z) : ∃ x ds b, d = .dict ((.none, .str x) :: ds) ∧ (x, b) ∈ tb ∧ z = .bool b := by
  cases d <;> first | (cases h; done) | skip
  rename_i l
  cases l with
  | nil => cases h
  | cons p ds =>
    obtain ⟨k, y⟩ := p
    cases k <;> first | (cases h; done) | skip
    cases y <;> first | (cases h; done) | skip
    rename_i x
    obtain ⟨b, e1, h⟩ := bnd (show ((tb.lookup x).bind fun b => some (.bool b)) = some z from h)
    cases h
    exact ⟨x, ds, b, rfl, look_mem e1, rfl⟩
/-- isinstance(v, c), v an error -/
def rIsX (K : PySem.W.Frag) (cv : Value) (tb : List (Str × Bool)) : List V → Hp → VK → Prop := fun xs H Q => ∃ (v c : V) (d z : D), xs = [v, c] ∧ (∀ u, RelV c u → u = cv) ∧ Dt K H v d ∧ isXD tb d = some z ∧ Gives K H z Q
theorem call_isX {cv : Value} {tb : List (Str × Bool)} (T : ClsT X.K cv tb) : CallR X (.builtin "isinstance") (rIsX X.K cv tb) := by
  intro pins s σ H xs us Q I r h
  obtain ⟨v, c, d, z, rfl, hcv, hv, e, q⟩ := h
  obtain ⟨x, ds, b, rfl, hm, rfl⟩ := isXD_some e
  obtain ⟨C, nx, ec, kt⟩ := T _ hm
  cases r with
  | cons rx rr =>
    cases rr with
    | cons rt rr =>
      cases rr
      have ee := hcv _ rt
      subst ee
      have fin : ∀ (a : Addr) (ox : Obj) (od : Option Obj), PySem.W.InstAt s.heap a ox C od → wpAny (model X.prog X.w) X.A (call (.builtin "isinstance") [.ref a, _]) (EP X pins σ Q) X.xe s := fun a ox od J =>
        PySem.W.kia_one (PySem.W.kitx_exc (ExcC.cl ec) ec.hg ec.hk ec.hs ec.ha ec.hn ec.ht ec.hm) I.kIn J kt (fun z => nomatch z) fun tk => ⟨.bl b, H, I.kept (t' := tk) fun _ _ z => z, rfl, q.now (.bl b)⟩
      cases hv with
      | dic s all => cases all
      | exz n s0 =>
        have e := Option.some.inj (Option.some.inj (nx.symm.trans n))
        cases e
        cases rx
        have x : ObjOk X.prog X.w H s.heap _ (.ext fun h => ∃ (oe : Obj) (vs : Array Value), h.get? _ = some oe ∧ Zc (.ref C) none oe ∧ oe.data = .fields vs ∧ vs[1]? = some .none ∧ vs[2]? = some .none ∧ 4 < vs.size) := I.hok _ _ s0
        obtain ⟨⟨oe, vs, hget, hz, hd, _⟩, _⟩ := x
        refine fin _ oe none ?_
        obtain ⟨oc, od, oda, osl⟩ := oe
        obtain ⟨h1, h2⟩ := hz
        dsimp only at h1 h2 hd
        subst h1 h2 hd
        exact ⟨hget, rfl, rfl, trivial⟩
      | exc n s0 t0 all =>
        have e := Option.some.inj (Option.some.inj (nx.symm.trans n))
        cases e
        cases rx
        obtain ⟨t1, ha⟩ := exo_at I.hok s0
        obtain ⟨mA, hns, hr⟩ := exd_at I.hok t0
        obtain ⟨od, ho, hl⟩ := lookIn_ns hns
        exact fin _ _ (some od) ⟨ha, rfl, rfl, ho⟩
theorem p_isX {p' : Pos} {T : Str} {cv : Value} {vc : V} {tb : List (Str × Bool)} (K : ClsT X.K cv tb) (rc : ∀ u, RelV vc u → u = cv) (hg : Gl X "isinstance") (hm : X.mg "isinstance" = none) (hT : PE X (.Name T p') (tC vc)) (ha : PE X e (tP X.K ga))
    (he : starEach [e, .Name T p'] X.env = (false, eval e X.env) :: starEach [.Name T p'] X.env := by rfl) (he2 : starEach [.Name T p'] X.env = (false, eval (.Name T p') X.env) :: starEach [] X.env := by rfl) (hpl : (backTo pos (starEach [.Name T p'] X.env)).any (·.1) = false := by rfl) :
    PE X (.Call (.Name "isinstance" p) [e, .Name T p'] [] pos) (tP X.K fun δ => (ga δ).bind (isXD tb)) :=
  imp (pe_callB (call_isX K) hg hm (by decide +kernel) (pa_cons ha (pa_cons hT pa_nil he2) he) (by decide) (by decide) he hpl) fun σ H Q ⟨δ, d, er, z, q⟩ => by
    obtain ⟨d1, e1, z⟩ := bnd z
    exact ⟨δ, d1, er, e1, fun v H1 s1 dv => ⟨v, vc, d1, d, rfl, rc, dv, z, q.on s1⟩⟩
end
end Wn

namespace Wn
open PySem PySem.Spec PyProof.Rows L2
/-! ### a list of two numbers that is drawn from, beside data that never hold it -/
def isPool : List D → Bool
  | [.int _, .int _] => true
  | _ => false
mutual
def np : D → Bool
  | .list ds => !isPool ds && npAll ds
  | .tuple ds => npAll ds
  | .none => true
  | .bool _ => true
  | .int _ => true
  | .str _ => true
  | .dict ds => npKv ds
def npAll : List D → Bool
  | [] => true
  | d :: r => np d && npAll r
def npKv : List (D × D) → Bool
  | [] => true
  | (_, d) :: r => np d && npKv r
end
theorem npAll_app : ∀ {a b : List D}, npAll a = true → npAll b = true → npAll (a ++ b) = true
  | [], _, _, h => h
  | d :: r, b, h, g => by
    obtain ⟨h1, h2⟩ := Bool.and_eq_true_iff.mp (show (np d && npAll r) = true from h)
    show (np d && npAll (r ++ b)) = true
    rw [h1, npAll_app h2 g]
    rfl
theorem npAll_at : ∀ {a : List D} {i : Nat} {d : D}, npAll a = true → a[i]? = some d → np d = true
  | [], _, _, _, e => by simp at e
  | x :: r, 0, d, h, e => by
    simp at e
    subst e
    exact (Bool.and_eq_true_iff.mp (show (np x && npAll r) = true from h)).1
  | x :: r, i + 1, d, h, e => npAll_at (Bool.and_eq_true_iff.mp (show (np x && npAll r) = true from h)).2 (by simpa using e)
def PoolAt (H : Hp) (p : Addr) : Prop := ∃ a b, H p = some (.lst [.int a, .int b]) ∧ 0 ≤ b ∧ b < 2147483647
def But (p : Addr) (H H' : Hp) : Prop := ∀ c o, c ≠ p → H c = some o → H' c = some o
structure Sm (p : Addr) (H H' : Hp) : Prop where
  but : But p H H'
  pool : PoolAt H' p
theorem Sm.of {p : Addr} {H H' : Hp} (h : PoolAt H p) (s : Same H H') : Sm p H H' := ⟨fun c o _ e => s c o e, let ⟨a, b, e, q⟩ := h; ⟨a, b, s _ _ e, q⟩⟩
theorem Sm.trans {p : Addr} {H H1 H2 : Hp} (a : Sm p H H1) (b : Sm p H1 H2) : Sm p H H2 := ⟨fun c o n e => b.but c o n (a.but c o n e), b.pool⟩
section
variable {K : PySem.W.Frag} {H H' : Hp} {p : Addr}
theorem npKv_tl {k : D} {x : Str} {ds : List (D × D)} (n : np (.dict ((k, .str x) :: ds)) = true) : npKv ds = true := (Bool.and_eq_true_iff.mp (show (np (PyData.str x) && npKv ds) = true from n)).2
theorem Dt.but (hp : PoolAt H p) (e : But p H H') (d : D) (v : V) (n : np d = true) (h : Dt K H v d) : Dt K H' v d := by
  have ne : ∀ a o, (∀ x y, o ≠ .lst [.int x, .int y]) → H a = some o → H' a = some o := fun a o no s => e _ _ (fun z => by
    obtain ⟨x, y, q, _⟩ := hp
    rw [z, q] at s
    exact no x y (Option.some.inj s).symm) s
  refine Dt.rec (motive_1 := fun v d _ => np d = true → Dt K H' v d) (motive_2 := fun vs ds _ => npAll ds = true → DtAll K H' vs ds) (motive_3 := fun fs ds _ => npKv ds = true → DtF K H' fs ds) ?_ ?_ ?_ ?_ ?_ ?_ ?_ ?_ ?_ ?_ ?_ ?_ ?_ ?_ h n
  · exact fun _ => .non
  · exact fun b _ => .bl b
  · exact fun i _ => .int i
  · exact fun x _ => .str x
  · intro a vs ds s all ih n
    obtain ⟨n1, n2⟩ := Bool.and_eq_true_iff.mp (show (!isPool ds && npAll ds) = true from n)
    refine .lst (ne _ _ (fun x y z => ?_) s) (ih n2)
    cases z
    cases all with
    | cons h1 r => cases r with
      | cons h2 r =>
        cases r
        cases h1; cases h2
        cases n1
  · intro a vs ds s all ih n
    refine .tup ?_ (ih n)
    rcases s with (s | ⟨o, s⟩) | s
    · exact Or.inl (Or.inl (ne _ _ (fun _ _ z => by cases z) s))
    · exact Or.inl (Or.inr ⟨o, ne _ _ (fun _ _ z => by cases z) s⟩)
    · exact Or.inr s
  · exact fun s all ih n => .dic (ne _ _ (fun _ _ z => by cases z) s) (ih n)
  · exact fun m s _ => .exz m (ne _ _ (fun _ _ z => by cases (show HO.ext _ = HO.lst _ from z)) s)
  · exact fun m s t all ih n => .exc m (ne _ _ (fun _ _ z => by cases (show HO.ext _ = HO.lst _ from z)) s) (ne _ _ (fun _ _ z => by cases (show HO.ext _ = HO.lst _ from z)) t) (ih (npKv_tl n))
  · exact fun m s all ih n => .obj m (ne _ _ (fun _ _ z => by cases z) s) (ih (npKv_tl n))
  · exact fun _ => .nil
  · exact fun a r h1 h2 n => .cons (h1 (Bool.and_eq_true_iff.mp n).1) (h2 (Bool.and_eq_true_iff.mp n).2)
  · exact fun _ => .nil
  · exact fun a r h1 h2 n => .cons (h1 (Bool.and_eq_true_iff.mp n).1) (h2 (Bool.and_eq_true_iff.mp n).2)
theorem DtAll.but (hp : PoolAt H p) (e : But p H H') : ∀ (ds : List D) (vs : List V), npAll ds = true → DtAll K H vs ds → DtAll K H' vs ds
  | [], _, _, h => by cases h; exact .nil
  | d :: ds, _, n, h => by
    obtain ⟨n1, n2⟩ := Bool.and_eq_true_iff.mp (show (np d && npAll ds) = true from n)
    cases h with
    | cons a r => exact .cons (Dt.but hp e d _ n1 a) (DtAll.but hp e ds _ n2 r)
theorem Sy.but (h : Sy H) (hp : PoolAt H p) (e : But p H H') : Sy H' := by
  obtain ⟨o, u, q⟩ := h
  refine ⟨o, u, e _ _ (fun z => ?_) q⟩
  obtain ⟨x, y, w, _⟩ := hp
  rw [z, w] at q
  cases q
end
def NpE (δ : En) : Prop := ∀ (i : Nat) (d : D), δ[i]? = some (some d) → np d = true
theorem NpE.set {δ : En} {i : Nat} {d : D} (h : NpE δ) (n : np d = true) : NpE (δ.set i (some d)) := fun j e z => by
  by_cases hj : j = i
  · subst hj
    by_cases hl : j < δ.length
    · rw [List.getElem?_set_self hl] at z; cases z; exact n
    · rw [List.getElem?_eq_none (by simpa using hl)] at z; cases z
  · rw [List.getElem?_set_ne (Ne.symm hj)] at z
    exact h j e z
theorem Er.but {K : PySem.W.Frag} {H H' : Hp} {p : Addr} {σ : L2.St} {δ : En} (h : Er K H σ δ) (n : NpE δ) (hp : PoolAt H p) (e : But p H H') : Er K H' σ δ := ⟨h.len, fun i d q => let ⟨v, a, b⟩ := h.val i d q; ⟨v, a, Dt.but hp e d v (n i d q) b⟩, h.sy.but hp e⟩
structure Wp where
  run : En → (D → Prop) → Prop
  up : ∀ {δ : En} {P Q : D → Prop}, run δ P → (∀ d, np d = true → P d → Q d) → run δ Q
structure WpL where
  run : En → (List D → Prop) → Prop
  up : ∀ {δ : En} {P Q : List D → Prop}, run δ P → (∀ d, npAll d = true → P d → Q d) → run δ Q
structure WpT where
  run : En → (Bool → Prop) → Prop
  up : ∀ {δ : En} {P Q : Bool → Prop}, run δ P → (∀ d, P d → Q d) → run δ Q
def Out.np : Out → Prop
  | .nx δ => NpE δ
  | .rt d => Wn.np d = true
structure WpS where
  run : En → (Out → Prop) → Prop
  up : ∀ {δ : En} {P Q : Out → Prop}, run δ P → (∀ d, d.np → P d → Q d) → run δ Q
/-- slot ip holds the pool at p -/
structure Wt (K : PySem.W.Frag) (p : Addr) (ip : Nat) (σ : L2.St) (H : Hp) (δ : En) : Prop where
  er : Er K H σ δ
  nn : NpE δ
  at_ : σ[ip]? = some (some (.ref p))
  pool : PoolAt H p
theorem Wt.on {K : PySem.W.Frag} {p : Addr} {ip : Nat} {σ : L2.St} {H H' : Hp} {δ : En} (h : Wt K p ip σ H δ) (s : Sm p H H') : Wt K p ip σ H' δ := ⟨h.er.but h.nn h.pool s.but, h.nn, h.at_, s.pool⟩
def tW (K : PySem.W.Frag) (p : Addr) (ip : Nat) (W : Wp) : TE := fun σ H Q => ∃ δ, Wt K p ip σ H δ ∧ W.run δ fun d => ∀ v H', Sm p H H' → Dt K H' v d → Q v H'
def tWL (K : PySem.W.Frag) (p : Addr) (ip : Nat) (W : WpL) : TA := fun σ H Q => ∃ δ, Wt K p ip σ H δ ∧ W.run δ fun ds => ∀ vs H', Sm p H H' → DtAll K H' vs ds → Q vs H'
def tWT (K : PySem.W.Frag) (p : Addr) (ip : Nat) (W : WpT) : TT := fun σ H Q => ∃ δ, Wt K p ip σ H δ ∧ W.run δ fun b => ∀ H', Sm p H H' → Q b H'
def Out.wishW (K : PySem.W.Frag) (p : Addr) (ip : Nat) (H : Hp) (E : Ends) : Out → Prop
  | .nx δ => ∀ σ' H', Sm p H H' → Wt K p ip σ' H' δ → E.nx σ' H'
  | .rt d => ∀ v H', Sm p H H' → Dt K H' v d → E.rt v H'
def tWS (K : PySem.W.Frag) (p : Addr) (ip : Nat) (W : WpS) : TS := fun E σ H => ∃ δ, Wt K p ip σ H δ ∧ W.run δ fun o => o.wishW K p ip H E
theorem wishW_on {K : PySem.W.Frag} {p : Addr} {ip : Nat} {H H1 : Hp} {E : Ends} {o : Out} (h : o.wishW K p ip H E) (s : Sm p H H1) : o.wishW K p ip H1 E := by
  cases o with
  | nx δ => exact fun σ' H' s' w => h σ' H' (s.trans s') w
  | rt d => exact fun v H' s' w => h v H' (s.trans s') w
def wPure (g : En → Option D) : Wp where
  run δ P := ∃ d, g δ = some d ∧ np d = true ∧ P d
  up := fun ⟨d, e, n, h⟩ f => ⟨d, e, n, f d n h⟩
def wOp (g : D → D → Option D) (Wa Wb : Wp) : Wp where
  run δ P := Wa.run δ fun x => Wb.run δ fun y => ∃ z, g x y = some z ∧ np z = true ∧ P z
  up := fun h f => Wa.up h fun x _ h => Wb.up h fun y _ ⟨z, e, n, h⟩ => ⟨z, e, n, f z n h⟩
def wNil : WpL where
  run _ P := P []
  up := fun h f => f [] rfl h
def wCons (Wa : Wp) (Wr : WpL) : WpL where
  run δ P := Wa.run δ fun x => Wr.run δ fun r => P (x :: r)
  up := fun h f => Wa.up h fun x n h => Wr.up h fun r m h => f (x :: r) (by show (np x && npAll r) = true; rw [n, m]; rfl) h
def wTup (W : WpL) : Wp where
  run δ P := W.run δ fun ds => ds.length ≤ 1000 ∧ P (.tuple ds)
  up := fun h f => W.up h fun ds n ⟨l, h⟩ => ⟨l, f _ n h⟩
def wLst (W : WpL) : Wp where
  run δ P := W.run δ fun ds => ds.length ≤ 1000 ∧ isPool ds = false ∧ P (.list ds)
  up := fun h f => W.up h fun ds n ⟨l, i, h⟩ => ⟨l, i, f _ (by show (!isPool ds && npAll ds) = true; rw [i, n]; rfl) h⟩
def wTake (g : En → Option D) : Wp where
  run δ P := ∃ n : Int, g δ = some (.int n) ∧ 0 < n ∧ n ≤ 1000000000 ∧ ∀ r : Int, 0 ≤ r → r < n → P (.int r)
  up := fun ⟨n, e, h1, h2, h⟩ f => ⟨n, e, h1, h2, fun r a b => f _ rfl (h r a b)⟩
/-- the promise of the draw -/
def spTake : Sp := fun vs H Q _ => ∃ (p : Addr) (n : Int), vs = [.ref p, .int n] ∧ 0 < n ∧ n ≤ 1000000000 ∧ PoolAt H p ∧ ∀ (r : Int) H', 0 ≤ r → r < n → Sm p H H' → Q (.int r) H'
section
variable {X : Cx} {p : Addr} {ip : Nat} {e a b : Expr} {es : List Expr} {pos : Pos} {ga : En → Option D} {Wa Wb : Wp} {Wr : WpL}
theorem w_pure (h : PE X e (tP X.K ga)) : PE X e (tW X.K p ip (wPure ga)) := imp h fun σ H Q ⟨δ, w, d, e, n, q⟩ => ⟨δ, d, w.er, e, fun v H' s dv => q v H' (Sm.of w.pool s) dv⟩
theorem w_op {op : Operator} {g : D → D → Option D} (ho : OpR X (binaryOp op) (r2 X.K g)) (ha : PE X a (tW X.K p ip Wa)) (hb : PE X b (tW X.K p ip Wb)) : PE X (.BinOp a op b pos) (tW X.K p ip (wOp g Wa Wb)) :=
  imp (pe_op ho ha hb) fun σ H Q ⟨δ, w, h⟩ => ⟨δ, w, Wa.up h fun x nx h v H1 s1 dv => ⟨δ, w.on s1, Wb.up h fun y _ ⟨z, ez, nz, h⟩ u H2 s2 du => ⟨x, y, z, Dt.but (w.on s1).pool s2.but x v nx dv, du, ez, fun v' H3 s3 dz => h v' H3 (s1.trans (s2.trans (Sm.of s2.pool s3))) dz⟩⟩⟩
theorem w_nil : PA X [] (tWL X.K p ip wNil) := impA pa_nil fun σ H Q ⟨δ, w, h⟩ => h [] H (Sm.of w.pool (Same.refl H)) .nil
theorem w_cons (ha : PE X e (tW X.K p ip Wa)) (hr : PA X es (tWL X.K p ip Wr)) (hs : starEach (e :: es) X.env = (false, eval e X.env) :: starEach es X.env := by rfl) : PA X (e :: es) (tWL X.K p ip (wCons Wa Wr)) :=
  impA (pa_cons ha hr hs) fun σ H Q ⟨δ, w, h⟩ => ⟨δ, w, Wa.up h fun x nx h v H1 s1 dv => ⟨δ, w.on s1, Wr.up h fun r _ h vs H2 s2 dvs => h _ _ (s1.trans s2) (.cons (Dt.but (w.on s1).pool s2.but x v nx dv) dvs)⟩⟩
theorem pool_new {H : Hp} {q : Addr} {o : HO} (h : PoolAt H p) (n : H q = none) : Sm p H (upd H q o) := Sm.of h (same_new n)
theorem w_tup {k : Nat} (h : PA X es (tWL X.K p ip Wr)) : PE X (.Tuple es k pos) (tW X.K p ip (wTup Wr)) := imp (pe_tup h) fun σ H Q ⟨δ, w, h⟩ => ⟨δ, w, Wr.up h fun ds n ⟨l, h⟩ vs H1 s1 dvs => ⟨by rw [dvs.len]; exact Nat.le_of_lt (small1000 l), fun q hq => h _ _ (s1.trans (pool_new s1.pool hq)) (.tup (SqT.of upd_same) (dvs.on (same_new hq)))⟩⟩
theorem w_lst (h : PA X es (tWL X.K p ip Wr)) : PE X (.List es pos) (tW X.K p ip (wLst Wr)) := imp (pe_lst h) fun σ H Q ⟨δ, w, h⟩ => ⟨δ, w, Wr.up h fun ds n ⟨l, _, h⟩ vs H1 s1 dvs => ⟨by rw [dvs.len]; exact Nat.le_of_lt (small1000 l), fun q hq => h _ _ (s1.trans (pool_new s1.pool hq)) (.lst upd_same (dvs.on (same_new hq)))⟩⟩
theorem w_ix (ha : PE X a (tW X.K p ip Wa)) (hb : PE X b (tW X.K p ip Wb)) (hs : PlainIx b) : PE X (.Subscript a b pos) (tW X.K p ip (wOp ixD Wa Wb)) :=
  imp (pe_ix (orI ix_list ix_tup) ha hb hs) fun σ H Q ⟨δ, w, h⟩ => ⟨δ, w, Wa.up h fun x nx h v H1 s1 dv => ⟨δ, w.on s1, Wb.up h fun y _ ⟨z, ez, nz, h⟩ u H2 s2 du => by
    have dx : Dt X.K H2 v x := Dt.but (w.on s1).pool s2.but x v nx dv
    have fin : ∀ (ds : List D) (i : Int) (vs : List V), (if 0 ≤ i then ds[i.toNat]? else none) = some z → DtAll X.K H2 vs ds → ∃ v, atI vs i = some v ∧ Q v H2 := fun ds i vs ez all => by
      by_cases hi : 0 ≤ i
      · rw [if_pos hi] at ez
        obtain ⟨v, ev, dv⟩ := all.at ez
        have e : i = ((i.toNat : Nat) : Int) := by omega
        refine ⟨v, ?_, h v H2 (s1.trans s2) dv⟩
        rw [e]
        exact atI_nat ev
      · rw [if_neg hi] at ez; cases ez
    cases y <;> first | (cases x <;> cases ez; done) | skip
    cases x <;> first | (cases ez; done) | skip
    · cases du
      cases dx with
      | lst s g =>
        obtain ⟨v, ev, t⟩ := fin _ _ _ ez g
        exact .inl ⟨_, _, _, v, rfl, rfl, SqL.of s, ev, t⟩
    · cases du
      cases dx with
      | tup s g =>
        obtain ⟨v, ev, t⟩ := fin _ _ _ ez g
        exact .inr ⟨_, _, _, v, rfl, rfl, s, ev, t⟩⟩⟩
theorem w_take {x y : Str} {p1 p2 : Pos} {f : Addr} {fd : FuncData} {ps : List Str} {k j : Nat} (F : FnOk X.prog X.w X.K X.mg X.base CX0 j f fd ps spTake) (hr : Room k X.A) (hj : j ≤ k) (hg : Gl X x) (hm : X.mg x = some (.ref f)) (hk : PySem.W.keepIn X.K (.ref f) = true) (hb : Binds X.K fd ps [])
    (hy : PE X (.Name y p2) (tVar ip)) (ha : PE X e (tP X.K ga)) (hdb : (x == ("__debug__" : Str)) = false := by decide) (he : starEach [.Name y p2, e] X.env = (false, eval (.Name y p2) X.env) :: starEach [e] X.env := by rfl) (he2 : starEach [e] X.env = (false, eval e X.env) :: starEach [] X.env := by rfl)
    (hpl : (backTo pos (starEach [e] X.env)).any (·.1) = false := by rfl) : PE X (.Call (.Name x p1) [.Name y p2, e] [] pos) (tW X.K p ip (wTake ga)) :=
  imp (pe_call F (hr.mono hj) hg hm hk hb .nil pass0 (pa_cons hy (pa_cons ha pa_nil he2) he) hdb he hpl) fun σ H Q ⟨δ, w, n, en, h1, h2, h⟩ => by
    refine ⟨.ref p, w.at_, δ, .int n, w.er, en, fun v H1 s1 dv => ?_⟩
    cases dv
    exact ⟨p, n, rfl, h1, h2, (Sm.of w.pool s1).pool, fun r H' a b s => h r a b _ _ ((Sm.of w.pool s1).trans s) (.int r)⟩
/-! tests and statements -/
variable {Wq Wq' : WpT} {Ws Ws' : WpS} {rest : List Expr} {c : Expr}
def wqPure (g : En → Option Bool) : WpT where
  run δ P := ∃ b, g δ = some b ∧ P b
  up := fun ⟨d, e, h⟩ f => ⟨d, e, f d h⟩
def wqCmp (g : D → D → Option D) (Wa Wb : Wp) : WpT where
  run δ P := Wa.run δ fun x => Wb.run δ fun y => ∃ b, g x y = some (.bool b) ∧ P b
  up := fun h f => Wa.up h fun x _ h => Wb.up h fun y _ ⟨z, e, h⟩ => ⟨z, e, f z h⟩
def wqOr (A B : WpT) : WpT where
  run δ P := A.run δ fun k => if k = true then P true else B.run δ P
  up := fun h f => A.up h fun k h => by
    cases k with
    | true => exact f true h
    | false => exact B.up h f
theorem wq_pure {q : En → Option Bool} (h : PT X e (tQ X.K q)) : PT X e (tWT X.K p ip (wqPure q)) := impT h fun σ H Q ⟨δ, w, b, e, h⟩ => ⟨δ, b, w.er, e, fun H' s => h H' (Sm.of w.pool s)⟩
theorem wq_cmp {op : CmpOp} {g : D → D → Option D} (ho : OpR X (compareOp op) (r2 X.K g)) (ha : PE X a (tW X.K p ip Wa)) (hb : PE X b (tW X.K p ip Wb)) (hm : behindInMarks op b = false) : PT X (.Compare a [op] [b] pos) (tWT X.K p ip (wqCmp g Wa Wb)) :=
  impT (pt_cmpR ho ha hb hm) fun σ H Q ⟨δ, w, h⟩ => ⟨δ, w, Wa.up h fun x nx h v H1 s1 dv => ⟨δ, w.on s1, Wb.up h fun y _ ⟨z, ez, h⟩ u H2 s2 du => ⟨x, y, .bool z, Dt.but (w.on s1).pool s2.but x v nx dv, du, ez, fun v' H3 s3 dz => by
    cases dz
    exact ⟨z, rfl, h H3 (s1.trans (s2.trans (Sm.of s2.pool s3)))⟩⟩⟩⟩
theorem wq_or (ha : PT X a (tWT X.K p ip Wq)) (hb : PW X (.BoolOp .Or (b :: rest) pos) (tWT X.K p ip Wq')) : PW X (.BoolOp .Or (a :: b :: rest) pos) (tWT X.K p ip (wqOr Wq Wq')) :=
  impW (pw_or ha hb) fun σ H Q ⟨δ, w, h⟩ => ⟨δ, w, Wq.up h fun k h H1 s1 => by
    cases k with
    | true => exact iteT (h H1 s1)
    | false => exact iteF ⟨δ, w.on s1, Wq'.up h fun d h H2 s2 => h H2 (s1.trans s2)⟩⟩
def wsSet (i : Nat) (W : Wp) : WpS where
  run δ P := NpE δ → W.run δ fun d => P (.nx (δ.set i (some d)))
  up := fun h f nn => W.up (h nn) fun d n h => f _ (nn.set n) h
def wsRet (W : Wp) : WpS where
  run δ P := W.run δ fun d => P (.rt d)
  up := fun h f => W.up h fun d n h => f _ n h
def wsIf (A : WpT) (S T : WpS) : WpS where
  run δ P := A.run δ fun k => if k = true then S.run δ P else T.run δ P
  up := fun h f => A.up h fun k h => by
    cases k with
    | true => exact S.up h f
    | false => exact T.up h f
def wsNil : WpS where
  run δ P := NpE δ ∧ P (.nx δ)
  up := fun h f => ⟨h.1, f _ h.1 h.2⟩
def wsSeq (S T : WpS) : WpS where
  run δ P := S.run δ fun o => match o with
    | .nx δ' => T.run δ' P
    | .rt d => P (.rt d)
  up := fun h f => S.up h fun o n h => by
    cases o with
    | nx δ' => exact T.up h f
    | rt d => exact f _ n h
theorem ws_set {i : Nat} {x : Str} {tp : Pos} (hi' : i ≠ ip) (hN : X.N.Nodup) (hi : X.N[i]? = some x) (hx : Loc X.env.scope x) (h : PE X e (tW X.K p ip Wa)) (hs : swapsWith e (some (.Name x tp)) pos.line X.env = pure false := by rfl)
    (hf : X.fn x = true ∨ X.env.scope.names.lookup x = some .local := by first | exact .inl rfl | exact .inr rfl | assumption) : PS X (.Assign [.Name x tp] e pos) (tWS X.K p ip (wsSet i Wa)) :=
  impS (ps_set hN hi hx h hs hf) fun E σ H ⟨δ, w, h⟩ => ⟨δ, w, Wa.up (h w.nn) fun d n h v H1 s1 dv => h _ _ s1 ⟨(w.on s1).er.set i dv, w.nn.set n, by rw [List.getElem?_set_ne hi']; exact w.at_, s1.pool⟩⟩
theorem ws_ret (h : PE X e (tW X.K p ip Wa)) : PS X (.Return (some e) pos) (tWS X.K p ip (wsRet Wa)) := impS (ps_ret h) fun E σ H ⟨δ, w, h⟩ => ⟨δ, w, Wa.up h fun d n h v H1 s1 dv => h v H1 s1 dv⟩
theorem ws_if {a b : List Stmt} (hc : PT X c (tWT X.K p ip Wq)) (ha : PSs X a (tWS X.K p ip Ws)) (hb : PSs X b (tWS X.K p ip Ws')) : PS X (.If c a b pos) (tWS X.K p ip (wsIf Wq Ws Ws')) :=
  impS (ps_if hc ha hb) fun E σ H ⟨δ, w, h⟩ => ⟨δ, w, Wq.up h fun k h H1 s1 => by
    cases k with
    | true => exact iteT ⟨δ, w.on s1, Ws.up h fun o _ h => wishW_on h s1⟩
    | false => exact iteF ⟨δ, w.on s1, Ws'.up h fun o _ h => wishW_on h s1⟩⟩
theorem ws_nil : PSs X [] (tWS X.K p ip wsNil) := impSs pss_nil fun E σ H ⟨δ, w, h⟩ => h.2 σ H (Sm.of w.pool (Same.refl H)) w
theorem ws_cons {st : Stmt} {rest : List Stmt} (h1 : PS X st (tWS X.K p ip Ws)) (h2 : PSs X rest (tWS X.K p ip Ws')) : PSs X (st :: rest) (tWS X.K p ip (wsSeq Ws Ws')) :=
  impSs (pss_cons h1 h2) fun E σ H ⟨δ, w, h⟩ => ⟨δ, w, Ws.up h fun o n h => by
    cases o with
    | nx δ' => exact fun σ' H' s' w' => ⟨δ', w', Ws'.up h fun o _ h => wishW_on h s'⟩
    | rt d => exact h⟩
end
end Wn

namespace Wn
open PySem PySem.Spec PyProof.Rows L2
section
variable {X : Cx} {e a b c : Expr} {es : List Expr} {pos p tp : Pos} {ga gb ge : En → Option D} {gt : En → Option Bool} {gl : En → Option (List D)} {elt iter : Expr} {ifs : List Expr} {scope : Scope} {x y : Str} {i j : Nat}
/-! a list times a number; a part of a list; a dict of one pair -/
def repD : D → D → Option D
  | .list xs, .int k => if 0 ≤ k ∧ k ≤ 100 ∧ xs.length ≤ 10 then some (.list (List.replicate k.toNat xs).flatten) else none
  | _, _ => none
theorem dtAll_rep {K : PySem.W.Frag} {H : Hp} {vs : List V} {ds : List D} (h : DtAll K H vs ds) : ∀ n : Nat, DtAll K H (List.replicate n vs).flatten (List.replicate n ds).flatten
  | 0 => .nil
  | n + 1 => by
    rw [List.replicate_succ, List.replicate_succ, List.flatten_cons, List.flatten_cons]
    exact h.app (dtAll_rep h n)
theorem o_rep : OpR X (binaryOp .Mult) (r2 X.K repD) := impO op_rep fun x y H Q ⟨a, b, d, h1, h2, z, q⟩ => by
  cases a <;> first | (cases z; done) | skip
  cases b <;> first | (cases z; done) | skip
  rename_i xs k
  have z : (if 0 ≤ k ∧ k ≤ 100 ∧ xs.length ≤ 10 then some (PyData.list (List.replicate k.toNat xs).flatten) else none) = some d := z
  by_cases hc : 0 ≤ k ∧ k ≤ 100 ∧ xs.length ≤ 10
  · rw [if_pos hc] at z
    cases z
    cases h2
    cases h1 with
    | lst s all =>
      refine ⟨_, k, _, rfl, rfl, s, by omega, by omega, ?_, fun p hp => ?_⟩
      · rw [all.len]
        have l1 : xs.length ≤ 10 := hc.2.2
        have l2 : k.toNat ≤ 100 := by omega
        exact Nat.le_of_lt (small1000 (Nat.le_trans (Nat.mul_le_mul l1 l2) (by decide)))
      · exact q _ _ (same_new hp) (.lst upd_same ((dtAll_rep all _).on (same_new hp)))
  · rw [if_neg hc] at z
    cases z
def cutD (lo hi : Int) : D → Option D
  | .list ds => some (.list ((ds.drop (HT.sIx ds.length 0 (some lo))).take (HT.sIx ds.length ds.length (some hi) - HT.sIx ds.length 0 (some lo))))
  | _ => none
theorem p_slc {lo hi : Int} {l h : Expr} {p2 : Pos} (he : PE X e (tP X.K ga)) (hl : PE X l (tC (.int lo))) (hh : PE X h (tC (.int hi))) : PE X (.Subscript e (.Slice (some l) (some h) none p2) pos) (tP X.K fun δ => (ga δ).bind (cutD lo hi)) :=
  imp (pe_slice sl_list he (po_some hl) (po_some hh)) fun σ H Q ⟨δ, d, er, z, q⟩ => by
    obtain ⟨d1, e1, z⟩ := bnd z
    refine ⟨δ, d1, er, e1, fun v H1 s1 dv => ?_⟩
    cases d1 <;> first | (cases z; done) | skip
    cases z
    cases dv with
    | lst s all =>
      refine ⟨lo, rfl, hi, rfl, _, _, rfl, SqL.of s, fun p hp => q _ _ (s1.trans (same_new hp)) (.lst upd_same ?_)⟩
      unfold cutV
      rw [all.len]
      exact ((all.drop _).take _).on (same_new hp)
theorem p_dict1 {k : Str} {kk : Nat} {p2 : Pos} (he : PE X e (tP X.K ga)) : PE X (.Dict [some (.Constant (.str k) kk p2)] [e] pos) (tP X.K fun δ => (ga δ).bind fun d => (flatD d).bind fun _ => some (.dict [(.str k, d)])) :=
  imp (pe_disp (pps_cons pe_str he pps_nil) rfl rfl (by simp) (by show 1 ≤ 15; decide)) fun σ H Q ⟨δ, d, er, z, q⟩ p hp => by
    obtain ⟨d1, e1, z⟩ := bnd z
    obtain ⟨v1, e2, z⟩ := bnd z
    cases z
    refine ⟨δ, d1, er.on (same_new hp), e1, fun v H1 s1 dv => ?_⟩
    have h1 : H1 p = some (.dK []) := s1 _ _ upd_same
    refine ⟨h1, [(.inr k, v)], rfl, by show 1 ≤ 15; decide, q _ _ (fun c o ec => ?_) ?_⟩
    · rw [upd_ne (ne_of_none ec hp)]
      exact s1 _ _ (same_new hp _ _ ec)
    · have ev := flatD_is e2 dv
      subst ev
      exact .dic (fs := [(k, v)]) upd_same (.cons (flatD_dt e2 _ _) .nil)
/-! comprehensions over range(n), over a list's fields -/
def rngEs (i : Nat) (δ : En) : D → Option (List En)
  | .int n => if 0 ≤ n ∧ n ≤ 1000 then some ((List.range n.toNat).map fun (k : Nat) => (wipeD δ [i]).set i (some (.int (k : Int)))) else none
  | _ => none
theorem p_lcR {p1 p2 : Pos} (hc : X.calm = true) (hN : X.N.Nodup) (hgr : Gl X "range") (hmr : X.mg "range" = none) (hi : PE X a (tP X.K ga)) (ok : BlkOk X.N X.env.scope scope [(x, i)])
    (hg : ∀ (s : Shared) (H : Hp) (C : Addr) (cl : List (Str × Addr)) (fp : List Addr), PG (X.blk s H scope (compEnvC scope cl C X.env) fp) (.Name x tp) (gName i))
    (ht : ∀ (s : Shared) (H : Hp) (C : Addr) (cl : List (Str × Addr)) (fp : List Addr), PTs (X.blk s H scope (compEnvC scope cl C X.env) fp) ifs (tQ X.K gt))
    (he : ∀ (s : Shared) (H : Hp) (C : Addr) (cl : List (Str × Addr)) (fp : List Addr), PE (X.blk s H scope (compEnvC scope cl C X.env) fp) elt (tP X.K ge)) (hs : ∀ x, foldedSetIterable (.Call (.Name "range" p1) [a] [] p2) X.env x = pure x := by intro _; rfl) (h1 : starEach [a] X.env = [(false, eval a X.env)] := by rfl) :
    PE X (.ListComp elt [⟨.Name x tp, .Call (.Name "range" p1) [a] [] p2, ifs, 0⟩] scope pos) (tP X.K fun δ => (ga δ).bind fun d => (rngEs i δ d).bind fun δs => (compO gt ge δs).bind fun ds => some (.list ds)) :=
  imp (pe_lc hc hN (pi_range1 hgr hmr (pa_cons hi pa_nil h1) h1) ok hg ht he hs) fun σ H Q ⟨δ, d, er, z, q⟩ => by
    obtain ⟨d1, e1, z⟩ := bnd z
    obtain ⟨δs, e2, z⟩ := bnd z
    obtain ⟨full, e3, z⟩ := bnd z
    cases z
    cases d1 <;> first | (cases e2; done) | skip
    rename_i n
    have e2 : (if 0 ≤ n ∧ n ≤ 1000 then some ((List.range n.toNat).map fun (k : Nat) => (wipeD δ [i]).set i (some (PyData.int (k : Int)))) else none) = some δs := e2
    by_cases hw : 0 ≤ n ∧ n ≤ 1000
    · rw [if_pos hw] at e2
      cases e2
      refine ⟨δ, _, er, e1, fun v H1 s1 dv => ?_⟩
      cases dv
      refine ⟨n, rfl, by omega, by omega, fun L hL => ?_⟩
      refine comp_run (K := X.K) walk_range (by rw [List.length_map, List.length_range]) (by omega) hL (fun _ _ => trivial) e3 (q.on s1) fun k v H2 H' hk s2 yy => ?_
      obtain ⟨rfl, rfl⟩ := yy
      refine ⟨Same.refl _, (wipeD δ [i]).set i (some (.int (k : Int))), ?_, fun R hR => ?_⟩
      · rw [List.getElem?_map, List.getElem?_range hk]; rfl
      · have e0 : (0 : Int) + (k : Int) = (k : Int) := Int.zero_add _
        show gName i (.int ((0 : Int) + (k : Int))) (wipe σ [i]) H' R
        rw [e0]
        exact hR _ _ (Same.refl _) ((er_wipe (er.on (s1.trans s2)) [i]).set i (.int _)) wipe1
    · rw [if_neg hw] at e2; cases e2
theorem yes_of {σ : L2.St} {H : Hp} {A B : Hp → Prop} (h : if true = true then A H else B H) : tYes σ H fun b H3 => if b = true then A H3 else B H3 := h
/-- the fields f of all items -/
def flds (tb : List (Str × Str)) (f : Str) : List D → Option (List D)
  | [] => some []
  | d :: r => (fldD tb f d).bind fun z => (flds tb f r).bind fun zs => some (z :: zs)
theorem flds_drop {tb : List (Str × Str)} {f : Str} : ∀ {ds : List D} {j : Nat} {d : D} {rest : List D}, flds tb f (ds.drop j) = some rest → ds[j]? = some d → ∃ z r, fldD tb f d = some z ∧ flds tb f (ds.drop (j + 1)) = some r ∧ rest = z :: r := fun {ds j d rest} h e => by
  obtain ⟨hj, e'⟩ := List.getElem?_eq_some_iff.mp e
  rw [List.drop_eq_getElem_cons hj, e'] at h
  obtain ⟨z, e1, h⟩ := bnd (show ((fldD tb f d).bind fun z => (flds tb f (ds.drop (j + 1))).bind fun zs => some (z :: zs)) = some rest from h)
  obtain ⟨r, e2, h⟩ := bnd h
  cases h
  exact ⟨z, r, e1, e2, rfl⟩
def fldL (tb : List (Str × Str)) (f : Str) : D → Option D
  | .list ds => if ds.length ≤ 1000 then (flds tb f ds).bind fun zs => some (.list zs) else none
  | _ => none
theorem p_lcF {tb : List (Str × Str)} {f : Str} {p1 p2 : Pos} (T : FldT X.K tb) (hc : X.calm = true) (hN : X.N.Nodup) (hi : PE X iter (tP X.K ga)) (ok : BlkOk X.N X.env.scope scope [(x, i)])
    (hg : ∀ (s : Shared) (H : Hp) (C : Addr) (cl : List (Str × Addr)) (fp : List Addr), PG (X.blk s H scope (compEnvC scope cl C X.env) fp) (.Name x tp) (gName i))
    (he : ∀ (s : Shared) (H : Hp) (C : Addr) (cl : List (Str × Addr)) (fp : List Addr), PE (X.blk s H scope (compEnvC scope cl C X.env) fp) (.Name x p1) (tVar i)) (hs : ∀ x, foldedSetIterable iter X.env x = pure x := by intro _; rfl)
    (hbb : ∀ (s : Shared) (H : Hp) (C : Addr) (cl : List (Str × Addr)) (fp : List Addr), attributeBase (.Name x p1) f (X.blk s H scope (compEnvC scope cl C X.env) fp).env (eval (.Name x p1) (X.blk s H scope (compEnvC scope cl C X.env) fp).env) = eval (.Name x p1) (X.blk s H scope (compEnvC scope cl C X.env) fp).env := by intros; rfl) :
    PE X (.ListComp (.Attribute (.Name x p1) f p2) [⟨.Name x tp, iter, [], 0⟩] scope pos) (tP X.K fun δ => (ga δ).bind fun d => if i < δ.length then fldL tb f d else none) :=
  imp (pe_lc hc hN (pi_list hi) ok hg (fun _ _ _ _ _ => pts_nil) (te := tXo X.K f (tVar i)) (fun s H C cl fp => pe_xo (he s H C cl fp) (hbb s H C cl fp)) hs) fun σ H Q ⟨δ, d, er, z, q⟩ => by
    obtain ⟨d1, e1, z⟩ := bnd z
    by_cases hl : i < δ.length
    case neg => rw [if_neg hl] at z; cases z
    rw [if_pos hl] at z
    have hl : i < σ.length := by rw [er.len]; exact hl
    cases d1 <;> first | (cases z; done) | skip
    rename_i ds
    have z : (if ds.length ≤ 1000 then (flds tb f ds).bind fun zs => some (PyData.list zs) else none) = some d := z
    by_cases hw : ds.length ≤ 1000
    · rw [if_pos hw] at z
      obtain ⟨full, e3, z⟩ := bnd z
      cases z
      refine ⟨δ, _, er, e1, fun v H1 s1 dv => ?_⟩
      cases dv with
      | lst sq all =>
      refine ⟨_, rfl, ⟨_, SqL.of sq⟩, fun L hL => ?_⟩
      refine lc_it walk_list (fun k H => Same H1 H ∧ ∃ pre acc rest, H L = some (.lst acc) ∧ DtAll X.K H1 acc pre ∧ acc.length ≤ k ∧ flds tb f (ds.drop k) = some rest ∧ pre ++ rest = full)
        ⟨same_new hL, [], [], full, upd_same, .nil, Nat.le_refl _, e3, rfl⟩ (fun k H _ pv => pv.1.seq (SqL.of sq)) (fun k v H H' hk pv yy => ?_) fun H pv => ?_
      · obtain ⟨s0, pre, acc, rest, hA, hF, hP, hC, hE⟩ := pv
        obtain ⟨rfl, ev⟩ := yy
        have hk2 : k < ds.length := by rw [← all.len]; exact hk
        obtain ⟨u, eu, du⟩ := all.at (List.getElem?_eq_getElem hk2)
        have f1 : u = v := Option.some.inj (eu.symm.trans ev)
        subst f1
        obtain ⟨z, r, g1, g2, rfl⟩ := flds_drop hC (List.getElem?_eq_getElem hk2)
        obtain ⟨a, dx, C, fs, w, rfl, xf, no, h1, h2, h3, dw⟩ := fld_at T du g1
        refine ⟨wipe1, ?_⟩
        refine yes_of (iteT ⟨.ref a, List.getElem?_set_self (by show i < (σ.set i none).length; simpa using hl), a, dx, C, fs, w, rfl, xf, no, s0 _ _ h1, s0 _ _ h2, h3, acc, hA, small1000 (by have := all.len; omega), fun c o ec => ?_, pre ++ [z], acc ++ [w], r, upd_same, hF.app (.cons dw .nil), ?_, g2, ?_⟩)
        · rw [upd_ne (ne_of_none ec hL)]
          exact s0 _ _ ec
        · rw [List.length_append, List.length_singleton]
          omega
        · rw [← hE, List.append_assoc]; rfl
      · obtain ⟨s0, pre, acc, rest, hA, hF, hP, hC, hE⟩ := pv
        rw [List.drop_eq_nil_of_le (by rw [all.len]; exact Nat.le_refl _)] at hC
        cases hC
        rw [List.append_nil] at hE
        subst hE
        exact q _ _ (s1.trans s0) (.lst hA (hF.on s0))
    · rw [if_neg hw] at z; cases z
/-! for i, x in enumerate(..) -/
def loopE (i j : Nat) (gb : En → Option Out) : Nat → List D → En → Option Out
  | _, [], δ => some (.nx δ)
  | n, d :: r, δ => (gb ((δ.set i (some (.int (n : Int)))).set j (some d))).bind fun o => match o with
    | .nx δ' => loopE i j gb (n + 1) r δ'
    | .rt x => some (.rt x)
theorem loopE_cons {gb : En → Option Out} {n : Nat} {d : D} {r : List D} {δ : En} {o : Out} (h : loopE i j gb n (d :: r) δ = some o) : ∃ o', gb ((δ.set i (some (.int (n : Int)))).set j (some d)) = some o' ∧ ((∃ δ', o' = .nx δ' ∧ loopE i j gb (n + 1) r δ' = some o) ∨ ∃ y, o' = .rt y ∧ o = .rt y) := by
  obtain ⟨o', e1, h⟩ := bnd (show ((gb ((δ.set i (some (.int (n : Int)))).set j (some d))).bind fun o => match o with | .nx δ' => loopE i j gb (n + 1) r δ' | .rt x => some (.rt x)) = some o from h)
  refine ⟨o', e1, ?_⟩
  cases o' with
  | nx δ' => exact .inl ⟨δ', rfl, h⟩
  | rt y => cases h; exact .inr ⟨y, rfl, rfl⟩
theorem s_forE {gbo : En → Option Out} {body : List Stmt} {p1 p2 ptp pc : Pos} {kk : Nat} (hp : PassesOwn (model X.prog X.w) X.A X.env X.xe) (hc : X.calm = true) (hge : Gl X "enumerate") (hme : X.mg "enumerate" = none) (hi : PE X iter (tP X.K ga)) (hg : PG X (.Tuple [.Name x p1, .Name y p2] kk ptp) (gTup X.K 2 (gCons (gName i) (gCons (gName j) gNil)))) (hb : PSs X body (tS X.K gbo))
    (hs : ∀ x, foldedSetIterable (.Call (.Name "enumerate" p) [iter] [] pc) X.env x = pure x := by intro _; rfl) (h1 : starEach [iter] X.env = [(false, eval iter X.env)] := by rfl) (h0 : i ≠ 0 := by decide) (h0' : j ≠ 0 := by decide) :
    PS X (.For (.Tuple [.Name x p1, .Name y p2] kk ptp) (.Call (.Name "enumerate" p) [iter] [] pc) body [] pos) (tS X.K fun δ => (ga δ).bind fun d => match d with
      | .list ds => loopE i j gbo 0 ds δ
      | _ => none) :=
  impS (ps_for hp hc (pi_enum hge hme (pa_cons hi pa_nil h1) h1) hg hb hs) fun E σ H ⟨δ, o, er, z, q⟩ => by
    obtain ⟨d, e1, z⟩ := bnd z
    refine ⟨δ, d, er, e1, fun v H1 s1 dv => ?_⟩
    cases d with
    | list ds =>
      cases dv with
      | lst s all =>
        refine ⟨_, _, rfl, SqL.of s, ?_⟩
        have q1 := wish_on q s1
        refine for_it walk_enum (D := E) (fun k τ H => Same H1 H ∧ τ[0]? = σ[0]? ∧ ∃ δ, Er X.K H τ δ ∧ loopE i j gbo k (ds.drop k) δ = some o) ⟨Same.refl _, rfl, δ, er.on s1, z⟩ (fun _ _ _ _ p => p.1.seq (SqL.of s)) (fun k v τ H H' hk p yy => ?_) fun τ H p => ?_
        · obtain ⟨s0, z0, δ, er, h⟩ := p
          obtain ⟨T, x1, x2, rfl, nT, rfl, g1, g2⟩ := yy
          cases g1
          have hk2 : k < ds.length := by rw [← all.len]; exact hk
          rw [List.drop_eq_getElem_cons hk2] at h
          obtain ⟨o', e2, w⟩ := loopE_cons h
          obtain ⟨u, eu, du⟩ := all.at (List.getElem?_eq_getElem hk2)
          have f1 : u = x2 := Option.some.inj (eu.symm.trans g2)
          subst f1
          have sT := same_new (o := .tup [.int (k : Nat), u]) nT
          refine ⟨_, _, rfl, SqT.of upd_same, rfl, .int (k : Nat), [u], rfl, u, [], rfl, rfl, ?_⟩
          refine ⟨_, o', ((er.on sT).set i (.int _)).set j (du.on (s0.trans sT)), e2, ?_⟩
          rcases w with ⟨δ', rfl, h'⟩ | ⟨y, rfl, rfl⟩
          · exact fun σ2 H2 s2 e2 z2 => ⟨s0.trans (sT.trans s2), by rw [z2, List.getElem?_set_ne h0', List.getElem?_set_ne h0]; exact z0, δ', e2, h'⟩
          · exact Gives.on q1 (s0.trans sT)
        · obtain ⟨s0, z0, δ, er, h⟩ := p
          rw [List.drop_eq_nil_of_le (by rw [all.len]; exact Nat.le_refl _)] at h
          cases h
          exact q1 τ H s0 er z0
    | _ => cases z
/-! a text with parts put in -/
theorem js_c {ts : List TE} {acc y : Str} {σ : L2.St} {H : Hp} {Q : Str → Hp → Prop} (n : Nat) (ha : acc.length ≤ n) (hn : n + y.length ≤ 9000) (k : ∀ z : Str, z.length ≤ n + y.length → tJs ts z σ H Q) : tJs (tC (.str y) :: ts) acc σ H Q :=
  ⟨y, rfl, by rw [strLen_append, sizeLine_eq]; omega, k _ (by rw [strLen_append]; omega)⟩
theorem js_f {ts : List TE} {acc : Str} {σ : L2.St} {H : Hp} {Q : Str → Hp → Prop} {v : V} {d : D} (n : Nat) (ha : acc.length ≤ n) (hn : n + 1000 ≤ 9000) (hv : σ[i]? = some (some v)) (dv : Dt X.K H v d) (ok : fmOk d = true) (sy : Sy H) (k : ∀ z : Str, z.length ≤ n + 1000 → tJs ts z σ H Q) : tJs (tFm (X := X) (tVar i) :: ts) acc σ H Q :=
  ⟨v, hv, d, dv, (Bool.and_eq_true_iff.mp ok).1, fmOk_str ok, sy, fun y hy => ⟨y, rfl, by rw [strLen_append, sizeLine_eq]; omega, k _ (by rw [strLen_append]; omega)⟩⟩
end
end Wn

namespace W4
open PySem PySem.Spec PyProof.Rows L2 Wn
def topS (i : Nat) : Stmt := PySem.Challenge.pw_waitedmeets_k04_refusals_apart.main.body.getD i (.Pass ⟨0, 0, 0, 0⟩)
/-! ### tables -/
def okA : List D → Bool := fun _ => true
def okF : List D → Bool := fun ds => ds.all fmOk
def names : List Str := ["NoProgram", "NoSet", "NoNames", "NoText", "NoRun", "NoStep", "NoNumber", "NoLine", "NoNet", "NoMarking", "NoTeller", "NoRow", "Unlike", "NoKind", "NoBody", "NoHouse", "NoLot", "NoState", "NoRule", "NoDesk", "TooMany"]
def tbF : List (Str × Str) := [("NoProgram", "kind"), ("NoProgram", "rule"), ("NoProgram", "deed"), ("NoSet", "thing"), ("NoNames", "thing"), ("NoText", "row"), ("NoRun", "number"), ("NoKind", "thing"), ("NoBody", "thing"), ("NoHouse", "thing"), ("NoLot", "thing"), ("NoState", "thing"), ("NoRule", "thing"), ("TooMany", "many")]
/-- the classes above -/
def above (x : Str) : List Str := if (["NoProgram", "NoSet", "NoNames", "NoText", "NoRun", "NoStep", "NoNumber", "NoLine", "NoNet", "NoMarking", "NoTeller", "NoRow", "Unlike"] : List Str).contains x then ["MeetError", "ValueError"] else if (["NoKind", "NoBody", "NoHouse"] : List Str).contains x then ["KeyError", "LookupError"] else if (["NoLot", "NoState", "NoRule"] : List Str).contains x then ["IndexError", "LookupError"] else if x == "NoDesk" then ["LookupError"] else ["OverflowError"]
def tbl (c : Str) : List (Str × Bool) := names.map fun x => (x, (x == c) || (above x).contains c)
section
variable {X : Cx} {e : Expr} {pos p p' : Pos} {ga : En → Option D} {c : Str} {tb : List (Str × Bool)}
theorem p_isO (h : ∃ C, X.mg c = some (.ref C) ∧ ClsT X.K (.ref C) tb) (hg : Gl X "isinstance") (hm : X.mg "isinstance" = none) (hc : Gl X c) (ha : PE X e (tP X.K ga)) (hdb : (c == ("__debug__" : Str)) = false := by decide)
    (he : starEach [e, .Name c p'] X.env = (false, eval e X.env) :: starEach [.Name c p'] X.env := by rfl) (he2 : starEach [.Name c p'] X.env = (false, eval (.Name c p') X.env) :: starEach [] X.env := by rfl) (hpl : (backTo pos (starEach [.Name c p'] X.env)).any (·.1) = false := by rfl) :
    PE X (.Call (.Name "isinstance" p) [e, .Name c p'] [] pos) (tP X.K fun δ => (ga δ).bind (isXD tb)) := by
  obtain ⟨C, m, T⟩ := h
  exact p_isX (vc := .ref C) T (fun u r => r) hg hm (pe_glob hc m rfl hdb) ha he he2 hpl
theorem p_isB {Ts : String} (h : ClsT X.K (.type Ts) tb) (hg : Gl X "isinstance") (hm : X.mg "isinstance" = none) (hc : Gl X c) (hn : X.mg c = none) (hv : bootBuiltins c = some (.type Ts)) (ha : PE X e (tP X.K ga)) (hdb : (c == ("__debug__" : Str)) = false := by decide) (hna : c ≠ "__name__" := by decide)
    (he : starEach [e, .Name c p'] X.env = (false, eval e X.env) :: starEach [.Name c p'] X.env := by rfl) (he2 : starEach [.Name c p'] X.env = (false, eval (.Name c p') X.env) :: starEach [] X.env := by rfl) (hpl : (backTo pos (starEach [.Name c p'] X.env)).any (·.1) = false := by rfl) :
    PE X (.Call (.Name "isinstance" p) [e, .Name c p'] [] pos) (tP X.K fun δ => (ga δ).bind (isXD tb)) :=
  p_isX (vc := .ty Ts) h (fun u r => r) hg hm (pe_bltn hc hn hv rfl hna hdb) ha he he2 hpl
end
structure Fx (K : PySem.W.Frag) (mg : Str → Option Value) : Prop where
  z_IndexError : mg "IndexError" = none
  z_KeyError : mg "KeyError" = none
  z_LookupError : mg "LookupError" = none
  z_OverflowError : mg "OverflowError" = none
  z_ValueError : mg "ValueError" = none
  z_enumerate : mg "enumerate" = none
  z_int : mg "int" = none
  z_isinstance : mg "isinstance" = none
  z_len : mg "len" = none
  z_max : mg "max" = none
  z_min : mg "min" = none
  z_range : mg "range" = none
  z_repr : mg "repr" = none
  z_tuple : mg "tuple" = none
  h_MOST_KINDS : ∃ t, mg "MOST_KINDS" = some (.int 6 t)
  h_MOST_IN_MAIN : ∃ t, mg "MOST_IN_MAIN" = some (.int 16 t)
  fld : FldT K tbF
  i_NoProgram : ∃ C, mg "NoProgram" = some (.ref C) ∧ ClsT K (.ref C) (tbl "NoProgram")
  i_NoSet : ∃ C, mg "NoSet" = some (.ref C) ∧ ClsT K (.ref C) (tbl "NoSet")
  i_NoNames : ∃ C, mg "NoNames" = some (.ref C) ∧ ClsT K (.ref C) (tbl "NoNames")
  i_NoText : ∃ C, mg "NoText" = some (.ref C) ∧ ClsT K (.ref C) (tbl "NoText")
  i_NoRun : ∃ C, mg "NoRun" = some (.ref C) ∧ ClsT K (.ref C) (tbl "NoRun")
  i_NoStep : ∃ C, mg "NoStep" = some (.ref C) ∧ ClsT K (.ref C) (tbl "NoStep")
  i_NoNumber : ∃ C, mg "NoNumber" = some (.ref C) ∧ ClsT K (.ref C) (tbl "NoNumber")
  i_NoLine : ∃ C, mg "NoLine" = some (.ref C) ∧ ClsT K (.ref C) (tbl "NoLine")
  i_NoNet : ∃ C, mg "NoNet" = some (.ref C) ∧ ClsT K (.ref C) (tbl "NoNet")
  i_NoMarking : ∃ C, mg "NoMarking" = some (.ref C) ∧ ClsT K (.ref C) (tbl "NoMarking")
  i_NoTeller : ∃ C, mg "NoTeller" = some (.ref C) ∧ ClsT K (.ref C) (tbl "NoTeller")
  i_NoRow : ∃ C, mg "NoRow" = some (.ref C) ∧ ClsT K (.ref C) (tbl "NoRow")
  i_Unlike : ∃ C, mg "Unlike" = some (.ref C) ∧ ClsT K (.ref C) (tbl "Unlike")
  i_NoKind : ∃ C, mg "NoKind" = some (.ref C) ∧ ClsT K (.ref C) (tbl "NoKind")
  i_NoBody : ∃ C, mg "NoBody" = some (.ref C) ∧ ClsT K (.ref C) (tbl "NoBody")
  i_NoHouse : ∃ C, mg "NoHouse" = some (.ref C) ∧ ClsT K (.ref C) (tbl "NoHouse")
  i_NoLot : ∃ C, mg "NoLot" = some (.ref C) ∧ ClsT K (.ref C) (tbl "NoLot")
  i_NoState : ∃ C, mg "NoState" = some (.ref C) ∧ ClsT K (.ref C) (tbl "NoState")
  i_NoRule : ∃ C, mg "NoRule" = some (.ref C) ∧ ClsT K (.ref C) (tbl "NoRule")
  i_NoDesk : ∃ C, mg "NoDesk" = some (.ref C) ∧ ClsT K (.ref C) (tbl "NoDesk")
  i_TooMany : ∃ C, mg "TooMany" = some (.ref C) ∧ ClsT K (.ref C) (tbl "TooMany")
  i_MeetError : ∃ C, mg "MeetError" = some (.ref C) ∧ ClsT K (.ref C) (tbl "MeetError")
  i_ValueError : ClsT K (.type "ValueError") (tbl "ValueError")
  i_KeyError : ClsT K (.type "KeyError") (tbl "KeyError")
  i_IndexError : ClsT K (.type "IndexError") (tbl "IndexError")
  i_LookupError : ClsT K (.type "LookupError") (tbl "LookupError")
  i_OverflowError : ClsT K (.type "OverflowError") (tbl "OverflowError")
  meet : ∃ D, mg "MeetError" = some (.ref D) ∧ PySem.W.readsIn K D (.type "type") = true ∧ PySem.W.specialIn K (.ref D) "__getattribute__" = some (some (.builtin "type.__getattribute__")) ∧ PySem.W.findCls K (.ref D) (.type "type") "__init__" = some (.val (.builtin "ValueError.__init__"))
section
variable {X : Cx} {pos : Pos}
theorem Fx.c_MOST_KINDS (T : Fx X.K X.mg) (hg : Gl X "MOST_KINDS") : PE X (.Name "MOST_KINDS" pos) (tP X.K fun _ => some (.int 6)) := by
  obtain ⟨t, h⟩ := T.h_MOST_KINDS
  exact p_c (v := .int 6) (pe_glob hg h ⟨t, rfl⟩) fun _ => .int _
theorem Fx.c_MOST_IN_MAIN (T : Fx X.K X.mg) (hg : Gl X "MOST_IN_MAIN") : PE X (.Name "MOST_IN_MAIN" pos) (tP X.K fun _ => some (.int 16)) := by
  obtain ⟨t, h⟩ := T.h_MOST_IN_MAIN
  exact p_c (v := .int 16) (pe_glob hg h ⟨t, rfl⟩) fun _ => .int _
end
section
variable {P : Program} {w : World} {K : PySem.W.Frag} {mg : Str → Option Value} {base : Heap}
abbrev st_NoProgram : Stmt := inClass (topS 30) 0
theorem sc_NoProgram : FnScope ["self", "kind", "rule", "deed"] ["self", "kind", "rule", "deed"] (defScope st_NoProgram) := ⟨rfl, rfl, rfl, by decide +kernel, rfl, by decide +kernel, by decide +kernel⟩
theorem in_NoProgram (T : Fx K mg) {C fI : Addr} {fd : FuncData} (TC : XC bVE K C) (n0 : PySem.W.findIn K (.ref C) "kind" = some none) (n1 : PySem.W.findIn K (.ref C) "rule" = some none) (n2 : PySem.W.findIn K (.ref C) "deed" = some none) (U : Fun K "__init__" "NoProgram.__init__" st_NoProgram fI fd) : FnG P w K mg base 1 fI fd ["self", "kind", "rule", "deed"] (spI K C ["kind", "rule", "deed"] okF) := by
  refine okG U sc_NoProgram (fun vs H Q E h => ?_) (fun cdv A outer s H vs Q E hr hG h => ?_)
  · obtain ⟨_, a, ws, ds, rfl, l, _⟩ := h
    rw [List.length_cons, l]
    rfl
  · obtain ⟨sy, a, ws, ds, rfl, l, ha, all, ho, q⟩ := h
    have hu := hr.units
    obtain ⟨D, mD, rD, sD, vD⟩ := T.meet
    match ws, l, ds, all with
    | [v0, v1, v2], _, _, .cons (d := d0) a0 (.cons (d := d1) a1 (.cons (d := d2) a2 .nil)) =>
    have oks : ∀ d ∈ [d0, d1, d2], fmOk d = true := fun d hd => List.all_eq_true.mp ho d hd
    refine ⟨_, pss_cons (ps_expr (pe_inO (b := bVE) (by rfl) mD rD sD vD (by decide +kernel) (pa_cons (pv 0) (pa_cons (pe_joined (.cons pe_str (.cons (pe_fm hG hu (pv 1)) (.cons pe_str (.cons (pe_fm hG hu (pv 2)) (.cons pe_str (.cons (pe_fm hG hu (pv 3)) .nil))))))) pa_nil)))) (pss_cons (ps_st (b := bVE) (pv 0) (pv 1)) (pss_cons (ps_st (b := bVE) (pv 0) (pv 2)) (pss_one (ps_st (b := bVE) (pv 0) (pv 3))))), ?_⟩
    refine ⟨_, rfl, js_c 0 (by decide) (by decide +kernel) fun z1 hz1 => js_f (X := (cxOf CX0 P w K mg base ["self", "kind", "rule", "deed"] "NoProgram.__init__" (defScope st_NoProgram) fI cdv A outer s H E).nox) (d := d0) 17 (by exact hz1) (by decide) rfl a0 (oks _ (by simp)) sy fun z2 hz2 => js_c 1017 (by exact hz2) (by decide +kernel) fun z3 hz3 => js_f (X := (cxOf CX0 P w K mg base ["self", "kind", "rule", "deed"] "NoProgram.__init__" (defScope st_NoProgram) fI cdv A outer s H E).nox) (d := d1) 1024 (by exact hz3) (by decide) rfl a1 (oks _ (by simp)) sy fun z4 hz4 => js_c 2024 (by exact hz4) (by decide +kernel) fun z5 hz5 => js_f (X := (cxOf CX0 P w K mg base ["self", "kind", "rule", "deed"] "NoProgram.__init__" (defScope st_NoProgram) fI cdv A outer s H E).nox) (d := d2) 2031 (by exact hz5) (by decide) rfl a2 (oks _ (by simp)) sy fun z6 hz6 => ⟨a, C, _, rfl, by show 1 ≤ 1000; decide, TC, ha, ?_⟩⟩
    refine ⟨_, rfl, _, rfl, a, C, rfl, TC, n0, .inl ⟨ha, fun dx n ne => ?_⟩⟩
    have e1 : upd (upd H dx (exd dx [("kind", v0)])) a (exo a C (some dx)) a = some (exo a C (some dx)) := upd_same
    have e2 : upd (upd H dx (exd dx [("kind", v0)])) a (exo a C (some dx)) dx = some (exd dx [("kind", v0)]) := by rw [upd_ne ne, upd_same]
    refine ⟨_, rfl, _, rfl, a, C, rfl, TC, n1, .inr ⟨dx, _, e1, e2, by show 1 ≤ 900; decide, ?_⟩⟩
    have sw : ∀ (f g : List (Str × V)), upd (upd (upd H dx (exd dx f)) a (exo a C (some dx))) dx (exd dx g) = upd (upd H dx (exd dx g)) a (exo a C (some dx)) := fun f g => by
      funext c
      by_cases h1 : c = dx
      · subst h1
        rw [upd_same, upd_ne ne, upd_same]
      · by_cases h2 : c = a
        · subst h2
          rw [upd_ne h1, upd_same, upd_same]
        · rw [upd_ne h1, upd_ne h2, upd_ne h1, upd_ne h2, upd_ne h1]
    rw [sw]
    have e3 : upd (upd H dx (exd dx [("rule", v1), ("kind", v0)])) a (exo a C (some dx)) a = some (exo a C (some dx)) := upd_same
    have e4 : upd (upd H dx (exd dx [("rule", v1), ("kind", v0)])) a (exo a C (some dx)) dx = some (exd dx [("rule", v1), ("kind", v0)]) := by rw [upd_ne ne, upd_same]
    refine ⟨_, rfl, _, rfl, a, C, rfl, TC, n2, .inr ⟨dx, _, e3, e4, by show 2 ≤ 900; decide, ?_⟩⟩
    rw [sw]
    exact q dx n ne
abbrev st_NoSet : Stmt := inClass (topS 31) 0
theorem sc_NoSet : FnScope ["self", "thing"] ["self", "thing"] (defScope st_NoSet) := ⟨rfl, rfl, rfl, by decide +kernel, rfl, by decide +kernel, by decide +kernel⟩
theorem in_NoSet (T : Fx K mg) {C fI : Addr} {fd : FuncData} (TC : XC bVE K C) (n0 : PySem.W.findIn K (.ref C) "thing" = some none) (U : Fun K "__init__" "NoSet.__init__" st_NoSet fI fd) : FnG P w K mg base 1 fI fd ["self", "thing"] (spI K C ["thing"] okA) := by
  refine okG U sc_NoSet (fun vs H Q E h => ?_) (fun cdv A outer s H vs Q E hr hG h => ?_)
  · obtain ⟨_, a, ws, ds, rfl, l, _⟩ := h
    rw [List.length_cons, l]
    rfl
  · obtain ⟨sy, a, ws, ds, rfl, l, ha, all, ho, q⟩ := h
    have hu := hr.units
    obtain ⟨D, mD, rD, sD, vD⟩ := T.meet
    match ws, l, ds, all with
    | [v0], _, _, .cons (d := d0) a0 .nil =>
    refine ⟨_, pss_cons (ps_expr (pe_inO (b := bVE) (by rfl) mD rD sD vD (by decide +kernel) (pa_cons (pv 0) (pa_cons pe_str pa_nil)))) (pss_one (ps_st (b := bVE) (pv 0) (pv 1))), ?_⟩
    refine ⟨_, rfl, ⟨a, C, _, rfl, by show 1 ≤ 1000; decide, TC, ha, ?_⟩⟩
    exact ⟨_, rfl, _, rfl, a, C, rfl, TC, n0, .inl ⟨ha, fun dx n ne => q dx n ne⟩⟩
abbrev st_NoNames : Stmt := inClass (topS 32) 0
theorem sc_NoNames : FnScope ["self", "thing"] ["self", "thing"] (defScope st_NoNames) := ⟨rfl, rfl, rfl, by decide +kernel, rfl, by decide +kernel, by decide +kernel⟩
theorem in_NoNames (T : Fx K mg) {C fI : Addr} {fd : FuncData} (TC : XC bVE K C) (n0 : PySem.W.findIn K (.ref C) "thing" = some none) (U : Fun K "__init__" "NoNames.__init__" st_NoNames fI fd) : FnG P w K mg base 1 fI fd ["self", "thing"] (spI K C ["thing"] okA) := by
  refine okG U sc_NoNames (fun vs H Q E h => ?_) (fun cdv A outer s H vs Q E hr hG h => ?_)
  · obtain ⟨_, a, ws, ds, rfl, l, _⟩ := h
    rw [List.length_cons, l]
    rfl
  · obtain ⟨sy, a, ws, ds, rfl, l, ha, all, ho, q⟩ := h
    have hu := hr.units
    obtain ⟨D, mD, rD, sD, vD⟩ := T.meet
    match ws, l, ds, all with
    | [v0], _, _, .cons (d := d0) a0 .nil =>
    refine ⟨_, pss_cons (ps_expr (pe_inO (b := bVE) (by rfl) mD rD sD vD (by decide +kernel) (pa_cons (pv 0) (pa_cons pe_str pa_nil)))) (pss_one (ps_st (b := bVE) (pv 0) (pv 1))), ?_⟩
    refine ⟨_, rfl, ⟨a, C, _, rfl, by show 1 ≤ 1000; decide, TC, ha, ?_⟩⟩
    exact ⟨_, rfl, _, rfl, a, C, rfl, TC, n0, .inl ⟨ha, fun dx n ne => q dx n ne⟩⟩
abbrev st_NoText : Stmt := inClass (topS 33) 0
theorem sc_NoText : FnScope ["self", "row"] ["self", "row"] (defScope st_NoText) := ⟨rfl, rfl, rfl, by decide +kernel, rfl, by decide +kernel, by decide +kernel⟩
theorem in_NoText (T : Fx K mg) {C fI : Addr} {fd : FuncData} (TC : XC bVE K C) (n0 : PySem.W.findIn K (.ref C) "row" = some none) (U : Fun K "__init__" "NoText.__init__" st_NoText fI fd) : FnG P w K mg base 1 fI fd ["self", "row"] (spI K C ["row"] okF) := by
  refine okG U sc_NoText (fun vs H Q E h => ?_) (fun cdv A outer s H vs Q E hr hG h => ?_)
  · obtain ⟨_, a, ws, ds, rfl, l, _⟩ := h
    rw [List.length_cons, l]
    rfl
  · obtain ⟨sy, a, ws, ds, rfl, l, ha, all, ho, q⟩ := h
    have hu := hr.units
    obtain ⟨D, mD, rD, sD, vD⟩ := T.meet
    match ws, l, ds, all with
    | [v0], _, _, .cons (d := d0) a0 .nil =>
    have oks : ∀ d ∈ [d0], fmOk d = true := fun d hd => List.all_eq_true.mp ho d hd
    refine ⟨_, pss_cons (ps_expr (pe_inO (b := bVE) (by rfl) mD rD sD vD (by decide +kernel) (pa_cons (pv 0) (pa_cons (pe_joined (.cons pe_str (.cons (pe_fm hG hu (pv 1)) .nil))) pa_nil)))) (pss_one (ps_st (b := bVE) (pv 0) (pv 1))), ?_⟩
    refine ⟨_, rfl, js_c 0 (by decide) (by decide +kernel) fun z1 hz1 => js_f (X := (cxOf CX0 P w K mg base ["self", "row"] "NoText.__init__" (defScope st_NoText) fI cdv A outer s H E).nox) (d := d0) 18 (by exact hz1) (by decide) rfl a0 (oks _ (by simp)) sy fun z2 hz2 => ⟨a, C, _, rfl, by show 1 ≤ 1000; decide, TC, ha, ?_⟩⟩
    exact ⟨_, rfl, _, rfl, a, C, rfl, TC, n0, .inl ⟨ha, fun dx n ne => q dx n ne⟩⟩
abbrev st_NoRun : Stmt := inClass (topS 34) 0
theorem sc_NoRun : FnScope ["self", "number"] ["self", "number"] (defScope st_NoRun) := ⟨rfl, rfl, rfl, by decide +kernel, rfl, by decide +kernel, by decide +kernel⟩
theorem in_NoRun (T : Fx K mg) {C fI : Addr} {fd : FuncData} (TC : XC bVE K C) (n0 : PySem.W.findIn K (.ref C) "number" = some none) (U : Fun K "__init__" "NoRun.__init__" st_NoRun fI fd) : FnG P w K mg base 1 fI fd ["self", "number"] (spI K C ["number"] okF) := by
  refine okG U sc_NoRun (fun vs H Q E h => ?_) (fun cdv A outer s H vs Q E hr hG h => ?_)
  · obtain ⟨_, a, ws, ds, rfl, l, _⟩ := h
    rw [List.length_cons, l]
    rfl
  · obtain ⟨sy, a, ws, ds, rfl, l, ha, all, ho, q⟩ := h
    have hu := hr.units
    obtain ⟨D, mD, rD, sD, vD⟩ := T.meet
    match ws, l, ds, all with
    | [v0], _, _, .cons (d := d0) a0 .nil =>
    have oks : ∀ d ∈ [d0], fmOk d = true := fun d hd => List.all_eq_true.mp ho d hd
    refine ⟨_, pss_cons (ps_expr (pe_inO (b := bVE) (by rfl) mD rD sD vD (by decide +kernel) (pa_cons (pv 0) (pa_cons (pe_joined (.cons pe_str (.cons (pe_fm hG hu (pv 1)) .nil))) pa_nil)))) (pss_one (ps_st (b := bVE) (pv 0) (pv 1))), ?_⟩
    refine ⟨_, rfl, js_c 0 (by decide) (by decide +kernel) fun z1 hz1 => js_f (X := (cxOf CX0 P w K mg base ["self", "number"] "NoRun.__init__" (defScope st_NoRun) fI cdv A outer s H E).nox) (d := d0) 18 (by exact hz1) (by decide) rfl a0 (oks _ (by simp)) sy fun z2 hz2 => ⟨a, C, _, rfl, by show 1 ≤ 1000; decide, TC, ha, ?_⟩⟩
    exact ⟨_, rfl, _, rfl, a, C, rfl, TC, n0, .inl ⟨ha, fun dx n ne => q dx n ne⟩⟩
abbrev st_NoKind : Stmt := inClass (topS 43) 0
theorem sc_NoKind : FnScope ["self", "thing"] ["self", "thing"] (defScope st_NoKind) := ⟨rfl, rfl, rfl, by decide +kernel, rfl, by decide +kernel, by decide +kernel⟩
theorem in_NoKind (T : Fx K mg) {C fI : Addr} {fd : FuncData} (TC : XC bKE K C) (n0 : PySem.W.findIn K (.ref C) "thing" = some none) (U : Fun K "__init__" "NoKind.__init__" st_NoKind fI fd) : FnG P w K mg base 1 fI fd ["self", "thing"] (spI K C ["thing"] okA) := by
  refine okG U sc_NoKind (fun vs H Q E h => ?_) (fun cdv A outer s H vs Q E hr hG h => ?_)
  · obtain ⟨_, a, ws, ds, rfl, l, _⟩ := h
    rw [List.length_cons, l]
    rfl
  · obtain ⟨sy, a, ws, ds, rfl, l, ha, all, ho, q⟩ := h
    have hu := hr.units
    match ws, l, ds, all with
    | [v0], _, _, .cons (d := d0) a0 .nil =>
    refine ⟨_, pss_cons (ps_expr (pe_inB (b := bKE) (x := "KeyError") (by rfl) T.z_KeyError (by decide +kernel) (by show typeOf (.type "KeyError") = _; kernel_rfl) (by decide +kernel) (by show PySem.W.findCls K (.type "KeyError") (.type "type") "__init__" = some (.val (.builtin "KeyError.__init__")); kernel_rfl) (by decide +kernel) (pa_cons (pv 0) (pa_cons pe_str pa_nil)))) (pss_one (ps_st (b := bKE) (pv 0) (pv 1))), ?_⟩
    refine ⟨_, rfl, ⟨a, C, _, rfl, by show 1 ≤ 1000; decide, TC, ha, ?_⟩⟩
    exact ⟨_, rfl, _, rfl, a, C, rfl, TC, n0, .inl ⟨ha, fun dx n ne => q dx n ne⟩⟩
abbrev st_NoBody : Stmt := inClass (topS 44) 0
theorem sc_NoBody : FnScope ["self", "thing"] ["self", "thing"] (defScope st_NoBody) := ⟨rfl, rfl, rfl, by decide +kernel, rfl, by decide +kernel, by decide +kernel⟩
theorem in_NoBody (T : Fx K mg) {C fI : Addr} {fd : FuncData} (TC : XC bKE K C) (n0 : PySem.W.findIn K (.ref C) "thing" = some none) (U : Fun K "__init__" "NoBody.__init__" st_NoBody fI fd) : FnG P w K mg base 1 fI fd ["self", "thing"] (spI K C ["thing"] okA) := by
  refine okG U sc_NoBody (fun vs H Q E h => ?_) (fun cdv A outer s H vs Q E hr hG h => ?_)
  · obtain ⟨_, a, ws, ds, rfl, l, _⟩ := h
    rw [List.length_cons, l]
    rfl
  · obtain ⟨sy, a, ws, ds, rfl, l, ha, all, ho, q⟩ := h
    have hu := hr.units
    match ws, l, ds, all with
    | [v0], _, _, .cons (d := d0) a0 .nil =>
    refine ⟨_, pss_cons (ps_expr (pe_inB (b := bKE) (x := "KeyError") (by rfl) T.z_KeyError (by decide +kernel) (by show typeOf (.type "KeyError") = _; kernel_rfl) (by decide +kernel) (by show PySem.W.findCls K (.type "KeyError") (.type "type") "__init__" = some (.val (.builtin "KeyError.__init__")); kernel_rfl) (by decide +kernel) (pa_cons (pv 0) (pa_cons pe_str pa_nil)))) (pss_one (ps_st (b := bKE) (pv 0) (pv 1))), ?_⟩
    refine ⟨_, rfl, ⟨a, C, _, rfl, by show 1 ≤ 1000; decide, TC, ha, ?_⟩⟩
    exact ⟨_, rfl, _, rfl, a, C, rfl, TC, n0, .inl ⟨ha, fun dx n ne => q dx n ne⟩⟩
abbrev st_NoHouse : Stmt := inClass (topS 45) 0
theorem sc_NoHouse : FnScope ["self", "thing"] ["self", "thing"] (defScope st_NoHouse) := ⟨rfl, rfl, rfl, by decide +kernel, rfl, by decide +kernel, by decide +kernel⟩
theorem in_NoHouse (T : Fx K mg) {C fI : Addr} {fd : FuncData} (TC : XC bKE K C) (n0 : PySem.W.findIn K (.ref C) "thing" = some none) (U : Fun K "__init__" "NoHouse.__init__" st_NoHouse fI fd) : FnG P w K mg base 1 fI fd ["self", "thing"] (spI K C ["thing"] okA) := by
  refine okG U sc_NoHouse (fun vs H Q E h => ?_) (fun cdv A outer s H vs Q E hr hG h => ?_)
  · obtain ⟨_, a, ws, ds, rfl, l, _⟩ := h
    rw [List.length_cons, l]
    rfl
  · obtain ⟨sy, a, ws, ds, rfl, l, ha, all, ho, q⟩ := h
    have hu := hr.units
    match ws, l, ds, all with
    | [v0], _, _, .cons (d := d0) a0 .nil =>
    refine ⟨_, pss_cons (ps_expr (pe_inB (b := bKE) (x := "KeyError") (by rfl) T.z_KeyError (by decide +kernel) (by show typeOf (.type "KeyError") = _; kernel_rfl) (by decide +kernel) (by show PySem.W.findCls K (.type "KeyError") (.type "type") "__init__" = some (.val (.builtin "KeyError.__init__")); kernel_rfl) (by decide +kernel) (pa_cons (pv 0) (pa_cons pe_str pa_nil)))) (pss_one (ps_st (b := bKE) (pv 0) (pv 1))), ?_⟩
    refine ⟨_, rfl, ⟨a, C, _, rfl, by show 1 ≤ 1000; decide, TC, ha, ?_⟩⟩
    exact ⟨_, rfl, _, rfl, a, C, rfl, TC, n0, .inl ⟨ha, fun dx n ne => q dx n ne⟩⟩
abbrev st_NoLot : Stmt := inClass (topS 46) 0
theorem sc_NoLot : FnScope ["self", "thing"] ["self", "thing"] (defScope st_NoLot) := ⟨rfl, rfl, rfl, by decide +kernel, rfl, by decide +kernel, by decide +kernel⟩
theorem in_NoLot (T : Fx K mg) {C fI : Addr} {fd : FuncData} (TC : XC bIE K C) (n0 : PySem.W.findIn K (.ref C) "thing" = some none) (U : Fun K "__init__" "NoLot.__init__" st_NoLot fI fd) : FnG P w K mg base 1 fI fd ["self", "thing"] (spI K C ["thing"] okA) := by
  refine okG U sc_NoLot (fun vs H Q E h => ?_) (fun cdv A outer s H vs Q E hr hG h => ?_)
  · obtain ⟨_, a, ws, ds, rfl, l, _⟩ := h
    rw [List.length_cons, l]
    rfl
  · obtain ⟨sy, a, ws, ds, rfl, l, ha, all, ho, q⟩ := h
    have hu := hr.units
    match ws, l, ds, all with
    | [v0], _, _, .cons (d := d0) a0 .nil =>
    refine ⟨_, pss_cons (ps_expr (pe_inB (b := bIE) (x := "IndexError") (by rfl) T.z_IndexError (by decide +kernel) (by show typeOf (.type "IndexError") = _; kernel_rfl) (by decide +kernel) (by show PySem.W.findCls K (.type "IndexError") (.type "type") "__init__" = some (.val (.builtin "IndexError.__init__")); kernel_rfl) (by decide +kernel) (pa_cons (pv 0) (pa_cons pe_str pa_nil)))) (pss_one (ps_st (b := bIE) (pv 0) (pv 1))), ?_⟩
    refine ⟨_, rfl, ⟨a, C, _, rfl, by show 1 ≤ 1000; decide, TC, ha, ?_⟩⟩
    exact ⟨_, rfl, _, rfl, a, C, rfl, TC, n0, .inl ⟨ha, fun dx n ne => q dx n ne⟩⟩
abbrev st_NoState : Stmt := inClass (topS 47) 0
theorem sc_NoState : FnScope ["self", "thing"] ["self", "thing"] (defScope st_NoState) := ⟨rfl, rfl, rfl, by decide +kernel, rfl, by decide +kernel, by decide +kernel⟩
theorem in_NoState (T : Fx K mg) {C fI : Addr} {fd : FuncData} (TC : XC bIE K C) (n0 : PySem.W.findIn K (.ref C) "thing" = some none) (U : Fun K "__init__" "NoState.__init__" st_NoState fI fd) : FnG P w K mg base 1 fI fd ["self", "thing"] (spI K C ["thing"] okA) := by
  refine okG U sc_NoState (fun vs H Q E h => ?_) (fun cdv A outer s H vs Q E hr hG h => ?_)
  · obtain ⟨_, a, ws, ds, rfl, l, _⟩ := h
    rw [List.length_cons, l]
    rfl
  · obtain ⟨sy, a, ws, ds, rfl, l, ha, all, ho, q⟩ := h
    have hu := hr.units
    match ws, l, ds, all with
    | [v0], _, _, .cons (d := d0) a0 .nil =>
    refine ⟨_, pss_cons (ps_expr (pe_inB (b := bIE) (x := "IndexError") (by rfl) T.z_IndexError (by decide +kernel) (by show typeOf (.type "IndexError") = _; kernel_rfl) (by decide +kernel) (by show PySem.W.findCls K (.type "IndexError") (.type "type") "__init__" = some (.val (.builtin "IndexError.__init__")); kernel_rfl) (by decide +kernel) (pa_cons (pv 0) (pa_cons pe_str pa_nil)))) (pss_one (ps_st (b := bIE) (pv 0) (pv 1))), ?_⟩
    refine ⟨_, rfl, ⟨a, C, _, rfl, by show 1 ≤ 1000; decide, TC, ha, ?_⟩⟩
    exact ⟨_, rfl, _, rfl, a, C, rfl, TC, n0, .inl ⟨ha, fun dx n ne => q dx n ne⟩⟩
abbrev st_NoRule : Stmt := inClass (topS 48) 0
theorem sc_NoRule : FnScope ["self", "thing"] ["self", "thing"] (defScope st_NoRule) := ⟨rfl, rfl, rfl, by decide +kernel, rfl, by decide +kernel, by decide +kernel⟩
theorem in_NoRule (T : Fx K mg) {C fI : Addr} {fd : FuncData} (TC : XC bIE K C) (n0 : PySem.W.findIn K (.ref C) "thing" = some none) (U : Fun K "__init__" "NoRule.__init__" st_NoRule fI fd) : FnG P w K mg base 1 fI fd ["self", "thing"] (spI K C ["thing"] okA) := by
  refine okG U sc_NoRule (fun vs H Q E h => ?_) (fun cdv A outer s H vs Q E hr hG h => ?_)
  · obtain ⟨_, a, ws, ds, rfl, l, _⟩ := h
    rw [List.length_cons, l]
    rfl
  · obtain ⟨sy, a, ws, ds, rfl, l, ha, all, ho, q⟩ := h
    have hu := hr.units
    match ws, l, ds, all with
    | [v0], _, _, .cons (d := d0) a0 .nil =>
    refine ⟨_, pss_cons (ps_expr (pe_inB (b := bIE) (x := "IndexError") (by rfl) T.z_IndexError (by decide +kernel) (by show typeOf (.type "IndexError") = _; kernel_rfl) (by decide +kernel) (by show PySem.W.findCls K (.type "IndexError") (.type "type") "__init__" = some (.val (.builtin "IndexError.__init__")); kernel_rfl) (by decide +kernel) (pa_cons (pv 0) (pa_cons pe_str pa_nil)))) (pss_one (ps_st (b := bIE) (pv 0) (pv 1))), ?_⟩
    refine ⟨_, rfl, ⟨a, C, _, rfl, by show 1 ≤ 1000; decide, TC, ha, ?_⟩⟩
    exact ⟨_, rfl, _, rfl, a, C, rfl, TC, n0, .inl ⟨ha, fun dx n ne => q dx n ne⟩⟩
abbrev st_TooMany : Stmt := inClass (topS 50) 0
theorem sc_TooMany : FnScope ["self", "many"] ["self", "many"] (defScope st_TooMany) := ⟨rfl, rfl, rfl, by decide +kernel, rfl, by decide +kernel, by decide +kernel⟩
theorem in_TooMany (T : Fx K mg) {C fI : Addr} {fd : FuncData} (TC : XC bOE K C) (n0 : PySem.W.findIn K (.ref C) "many" = some none) (U : Fun K "__init__" "TooMany.__init__" st_TooMany fI fd) : FnG P w K mg base 1 fI fd ["self", "many"] (spI K C ["many"] okF) := by
  refine okG U sc_TooMany (fun vs H Q E h => ?_) (fun cdv A outer s H vs Q E hr hG h => ?_)
  · obtain ⟨_, a, ws, ds, rfl, l, _⟩ := h
    rw [List.length_cons, l]
    rfl
  · obtain ⟨sy, a, ws, ds, rfl, l, ha, all, ho, q⟩ := h
    have hu := hr.units
    match ws, l, ds, all with
    | [v0], _, _, .cons (d := d0) a0 .nil =>
    have oks : ∀ d ∈ [d0], fmOk d = true := fun d hd => List.all_eq_true.mp ho d hd
    refine ⟨_, pss_cons (ps_expr (pe_inB (b := bOE) (x := "OverflowError") (by rfl) T.z_OverflowError (by decide +kernel) (by show typeOf (.type "OverflowError") = _; kernel_rfl) (by decide +kernel) (by show PySem.W.findCls K (.type "OverflowError") (.type "type") "__init__" = some (.val (.builtin "OverflowError.__init__")); kernel_rfl) (by decide +kernel) (pa_cons (pv 0) (pa_cons (pe_joined (.cons pe_str (.cons (pe_fm hG hu (pv 1)) .nil))) pa_nil)))) (pss_one (ps_st (b := bOE) (pv 0) (pv 1))), ?_⟩
    refine ⟨_, rfl, js_c 0 (by decide) (by decide +kernel) fun z1 hz1 => js_f (X := (cxOf CX0 P w K mg base ["self", "many"] "TooMany.__init__" (defScope st_TooMany) fI cdv A outer s H E).nox) (d := d0) 10 (by exact hz1) (by decide) rfl a0 (oks _ (by simp)) sy fun z2 hz2 => ⟨a, C, _, rfl, by show 1 ≤ 1000; decide, TC, ha, ?_⟩⟩
    exact ⟨_, rfl, _, rfl, a, C, rfl, TC, n0, .inl ⟨ha, fun dx n ne => q dx n ne⟩⟩
abbrev st_is_tuple_of : Stmt := topS 11
theorem sc_is_tuple_of : FnScope ["thing", "least", "most"] ["thing", "least", "most"] (defScope st_is_tuple_of) := ⟨rfl, rfl, rfl, by decide +kernel, rfl, by decide +kernel, by decide +kernel⟩
def m_is_tuple_of : En → Option Out := seqO (fun δ => ((andV (fun δ => ((fun δ => (δ[0]?).join) δ).bind fun d => if tagged d then none else some (.bool (isT d))) (chn (onI fun i j => some (.bool (decide (i ≤ j)))) (onI fun i j => some (.bool (decide (i ≤ j)))) (fun δ => (δ[1]?).join) (fun δ => ((fun δ => ((fun δ => (δ[0]?).join) δ).bind fun x => ((fun _ => some []) δ).bind fun r => some (x :: r)) δ).bind lenD) (fun δ => (δ[2]?).join))) δ).bind fun d => some (.rt d)) (fun δ => some (.nx δ))
def fn_is_tuple_of : List D → Option D := fnD 3 m_is_tuple_of
theorem ok_is_tuple_of (T : Fx K mg) (A : Dfn K mg "is_tuple_of" st_is_tuple_of ["thing", "least", "most"]) : Cal P w K mg base "is_tuple_of" st_is_tuple_of 1 ["thing", "least", "most"] 3 fn_is_tuple_of :=
  mk_def A sc_is_tuple_of rfl fun f cdv A outer s H E hr => by
    have hu := hr.units
    exact s_cons (s_ret (p_and (p_isi (Ts := "tuple") kT (by rfl) T.z_isinstance (pe_bltn (by rfl) T.z_tuple (by decide +kernel) rfl) (p_var (pv 0))) (pe_one (p_chain (o_le) (o_le) (p_var (pv 1)) (p_callB c_len (by rfl) T.z_len (by decide +kernel) (l_cons (p_var (pv 0)) (l_nil))) (p_var (pv 2)))))) (s_nil)
abbrev st_is_frame : Stmt := topS 60
theorem sc_is_frame : FnScope ["thing"] ["thing"] (defScope st_is_frame) := ⟨rfl, rfl, rfl, by decide +kernel, rfl, by decide +kernel, by decide +kernel⟩
def m_is_frame : En → Option Out := seqO (fun δ => ((fun δ => ((fun δ => ((fun δ => ((fun δ => ((fun δ => (δ[0]?).join) δ).bind fun x => ((fun δ => ((fun _ => some (.int 2)) δ).bind fun x => ((fun δ => ((fun _ => some (.int 2)) δ).bind fun x => ((fun _ => some []) δ).bind fun r => some (x :: r)) δ).bind fun r => some (x :: r)) δ).bind fun r => some (x :: r)) δ).bind fun r => if r.length = 3 then fn_is_tuple_of r else none) δ).bind asB) δ).bind fun k => some !k) δ).bind fun k => if k then (seqO (fun δ => ((fun _ => some (.bool false)) δ).bind fun d => some (.rt d)) (fun δ => some (.nx δ))) δ else (fun δ => some (.nx δ)) δ) (seqO (fun δ => ((andV (fun δ => ((fun δ => ((fun δ => ((fun δ => (δ[0]?).join) δ).bind fun x => ((fun _ => some (.int 0)) δ).bind fun y => ixD x y) δ).bind fun x => ((fun δ => ((fun _ => some (.int 1)) δ).bind fun x => ((fun δ => ((fun _ => some (.int 6)) δ).bind fun x => ((fun _ => some []) δ).bind fun r => some (x :: r)) δ).bind fun r => some (x :: r)) δ).bind fun r => some (x :: r)) δ).bind fun r => if r.length = 3 then fn_is_tuple_of r else none) (fun δ => ((fun δ => ((fun δ => ((fun δ => (δ[0]?).join) δ).bind fun x => ((fun _ => some (.int 1)) δ).bind fun y => ixD x y) δ).bind fun x => ((fun δ => ((fun _ => some (.int 0)) δ).bind fun x => ((fun δ => ((fun _ => some (.int 16)) δ).bind fun x => ((fun _ => some []) δ).bind fun r => some (x :: r)) δ).bind fun r => some (x :: r)) δ).bind fun r => some (x :: r)) δ).bind fun r => if r.length = 3 then fn_is_tuple_of r else none)) δ).bind fun d => some (.rt d)) (fun δ => some (.nx δ)))
def fn_is_frame : List D → Option D := fnD 1 m_is_frame
theorem ok_is_frame (T : Fx K mg) (A : Dfn K mg "is_frame" st_is_frame ["thing"]) (C_is_tuple_of : Cal P w K mg base "is_tuple_of" st_is_tuple_of 1 ["thing", "least", "most"] 3 fn_is_tuple_of) : Cal P w K mg base "is_frame" st_is_frame 2 ["thing"] 1 fn_is_frame :=
  mk_def A sc_is_frame rfl fun f cdv A outer s H E hr => by
    have hu := hr.units
    exact s_cons (s_if (q_not (q_val (c_call C_is_tuple_of hr (by decide) (by rfl) (l_cons (p_var (pv 0)) (l_cons (p_c pe_int fun _ => .int _) (l_cons (p_c pe_int fun _ => .int _) (l_nil))))))) (s_cons (s_ret (p_c pe_bl fun _ => .bl _)) (s_nil)) (s_nil)) (s_cons (s_ret (p_and (c_call C_is_tuple_of hr (by decide) (by rfl) (l_cons (p_ix (p_var (pv 0)) (p_c pe_int fun _ => .int _) (fun _ _ => rfl)) (l_cons (p_c pe_int fun _ => .int _) (l_cons ((Fx.c_MOST_KINDS T (by rfl))) (l_nil))))) (pe_one (c_call C_is_tuple_of hr (by decide) (by rfl) (l_cons (p_ix (p_var (pv 0)) (p_c pe_int fun _ => .int _) (fun _ _ => rfl)) (l_cons (p_c pe_int fun _ => .int _) (l_cons ((Fx.c_MOST_IN_MAIN T (by rfl))) (l_nil)))))))) (s_nil))
abbrev st__law_made : Stmt := topS 75
theorem sc__law_made : FnScope ["_law_one", "_law_found"] ["_law_one"] (defScope st__law_made) := ⟨rfl, rfl, rfl, by decide +kernel, rfl, by decide +kernel, by decide +kernel⟩
def m__law_made : En → Option Out := seqO (fun δ => ((disp .list (fun δ => ((fun δ => ((fun δ => ((fun δ => (δ[0]?).join) δ).bind fun x => ((fun δ => ((fun _ => some (.int 5)) δ).bind fun x => ((fun δ => ((fun δ => (δ[0]?).join) δ).bind fun x => ((fun _ => some []) δ).bind fun r => some (x :: r)) δ).bind fun r => some (x :: r)) δ).bind fun r => some (x :: r)) δ).bind (mkD "NoProgram" ["kind", "rule", "deed"] okF)) δ).bind fun x => ((fun δ => ((fun δ => ((fun δ => ((fun δ => (δ[0]?).join) δ).bind fun x => ((fun _ => some []) δ).bind fun r => some (x :: r)) δ).bind (mkD "NoSet" ["thing"] okA)) δ).bind fun x => ((fun δ => ((fun δ => ((fun δ => ((fun δ => (δ[0]?).join) δ).bind fun x => ((fun _ => some []) δ).bind fun r => some (x :: r)) δ).bind (mkD "NoNames" ["thing"] okA)) δ).bind fun x => ((fun δ => ((fun δ => ((fun δ => ((fun δ => (δ[0]?).join) δ).bind fun x => ((fun _ => some []) δ).bind fun r => some (x :: r)) δ).bind (mkD "NoText" ["row"] okF)) δ).bind fun x => ((fun δ => ((fun δ => ((fun δ => ((fun δ => (δ[0]?).join) δ).bind fun x => ((fun _ => some []) δ).bind fun r => some (x :: r)) δ).bind (mkD "NoRun" ["number"] okF)) δ).bind fun x => ((fun δ => ((fun δ => ((fun _ => some (PyData.str "word")) δ).bind fun _ => some (.dict [(.none, .str "NoStep")])) δ).bind fun x => ((fun δ => ((fun δ => ((fun _ => some (PyData.str "w")) δ).bind fun _ => some (.dict [(.none, .str "NoNumber")])) δ).bind fun x => ((fun _ => some []) δ).bind fun r => some (x :: r)) δ).bind fun r => some (x :: r)) δ).bind fun r => some (x :: r)) δ).bind fun r => some (x :: r)) δ).bind fun r => some (x :: r)) δ).bind fun r => some (x :: r)) δ).bind fun r => some (x :: r))) δ).bind fun d => some (.nx (δ.set 1 (some d)))) (seqO (fun δ => ((fun δ => ((fun δ => (δ[1]?).join) δ).bind fun x => ((disp .list (fun δ => ((fun δ => ((fun _ => some (PyData.str "word")) δ).bind fun _ => some (.dict [(.none, .str "NoLine")])) δ).bind fun x => ((fun δ => ((fun δ => ((fun _ => some (PyData.str "word")) δ).bind fun _ => some (.dict [(.none, .str "NoNet")])) δ).bind fun x => ((fun δ => ((fun δ => ((fun _ => some (PyData.str "word")) δ).bind fun _ => some (.dict [(.none, .str "NoMarking")])) δ).bind fun x => ((fun δ => ((fun δ => ((fun _ => some (PyData.str "word")) δ).bind fun _ => some (.dict [(.none, .str "NoTeller")])) δ).bind fun x => ((fun δ => ((fun δ => ((fun _ => some (PyData.str "word")) δ).bind fun _ => some (.dict [(.none, .str "NoRow")])) δ).bind fun x => ((fun δ => ((fun δ => ((fun _ => some (PyData.str "word")) δ).bind fun _ => some (.dict [(.none, .str "Unlike")])) δ).bind fun x => ((fun _ => some []) δ).bind fun r => some (x :: r)) δ).bind fun r => some (x :: r)) δ).bind fun r => some (x :: r)) δ).bind fun r => some (x :: r)) δ).bind fun r => some (x :: r)) δ).bind fun r => some (x :: r))) δ).bind fun y => addD x y) δ).bind fun d => some (.nx (δ.set 1 (some d)))) (seqO (fun δ => ((fun δ => ((fun δ => (δ[1]?).join) δ).bind fun x => ((disp .list (fun δ => ((fun δ => ((fun δ => ((fun δ => (δ[0]?).join) δ).bind fun x => ((fun _ => some []) δ).bind fun r => some (x :: r)) δ).bind (mkD "NoKind" ["thing"] okA)) δ).bind fun x => ((fun δ => ((fun δ => ((fun δ => ((fun δ => (δ[0]?).join) δ).bind fun x => ((fun _ => some []) δ).bind fun r => some (x :: r)) δ).bind (mkD "NoBody" ["thing"] okA)) δ).bind fun x => ((fun δ => ((fun δ => ((fun δ => ((fun δ => (δ[0]?).join) δ).bind fun x => ((fun _ => some []) δ).bind fun r => some (x :: r)) δ).bind (mkD "NoHouse" ["thing"] okA)) δ).bind fun x => ((fun δ => ((fun δ => ((fun δ => ((fun δ => (δ[0]?).join) δ).bind fun x => ((fun _ => some []) δ).bind fun r => some (x :: r)) δ).bind (mkD "NoLot" ["thing"] okA)) δ).bind fun x => ((fun δ => ((fun δ => ((fun δ => ((fun δ => (δ[0]?).join) δ).bind fun x => ((fun _ => some []) δ).bind fun r => some (x :: r)) δ).bind (mkD "NoState" ["thing"] okA)) δ).bind fun x => ((fun δ => ((fun δ => ((fun δ => ((fun δ => (δ[0]?).join) δ).bind fun x => ((fun _ => some []) δ).bind fun r => some (x :: r)) δ).bind (mkD "NoRule" ["thing"] okA)) δ).bind fun x => ((fun _ => some []) δ).bind fun r => some (x :: r)) δ).bind fun r => some (x :: r)) δ).bind fun r => some (x :: r)) δ).bind fun r => some (x :: r)) δ).bind fun r => some (x :: r)) δ).bind fun r => some (x :: r))) δ).bind fun y => addD x y) δ).bind fun d => some (.nx (δ.set 1 (some d)))) (seqO (fun δ => ((fun δ => ((fun δ => (δ[1]?).join) δ).bind fun x => ((disp .list (fun δ => ((fun δ => ((fun _ => some (PyData.str "w")) δ).bind fun _ => some (.dict [(.none, .str "NoDesk")])) δ).bind fun x => ((fun δ => ((fun δ => ((fun δ => ((fun δ => (δ[0]?).join) δ).bind fun x => ((fun _ => some []) δ).bind fun r => some (x :: r)) δ).bind (mkD "TooMany" ["many"] okF)) δ).bind fun x => ((fun _ => some []) δ).bind fun r => some (x :: r)) δ).bind fun r => some (x :: r))) δ).bind fun y => addD x y) δ).bind fun d => some (.rt d)) (fun δ => some (.nx δ)))))
def fn__law_made : List D → Option D := fnD 2 m__law_made
theorem ok__law_made (T : Fx K mg) (A : Dfn K mg "_law_made" st__law_made ["_law_one"]) (E_NoBody : Ec P w K mg base "NoBody" "NoBody.__init__" st_NoBody bKE 1 ["thing"] okA) (E_NoDesk : Ez K mg "NoDesk") (E_NoHouse : Ec P w K mg base "NoHouse" "NoHouse.__init__" st_NoHouse bKE 1 ["thing"] okA) (E_NoKind : Ec P w K mg base "NoKind" "NoKind.__init__" st_NoKind bKE 1 ["thing"] okA) (E_NoLine : Ez K mg "NoLine") (E_NoLot : Ec P w K mg base "NoLot" "NoLot.__init__" st_NoLot bIE 1 ["thing"] okA) (E_NoMarking : Ez K mg "NoMarking") (E_NoNames : Ec P w K mg base "NoNames" "NoNames.__init__" st_NoNames bVE 1 ["thing"] okA) (E_NoNet : Ez K mg "NoNet") (E_NoNumber : Ez K mg "NoNumber") (E_NoProgram : Ec P w K mg base "NoProgram" "NoProgram.__init__" st_NoProgram bVE 1 ["kind", "rule", "deed"] okF) (E_NoRow : Ez K mg "NoRow") (E_NoRule : Ec P w K mg base "NoRule" "NoRule.__init__" st_NoRule bIE 1 ["thing"] okA) (E_NoRun : Ec P w K mg base "NoRun" "NoRun.__init__" st_NoRun bVE 1 ["number"] okF) (E_NoSet : Ec P w K mg base "NoSet" "NoSet.__init__" st_NoSet bVE 1 ["thing"] okA) (E_NoState : Ec P w K mg base "NoState" "NoState.__init__" st_NoState bIE 1 ["thing"] okA) (E_NoStep : Ez K mg "NoStep") (E_NoTeller : Ez K mg "NoTeller") (E_NoText : Ec P w K mg base "NoText" "NoText.__init__" st_NoText bVE 1 ["row"] okF) (E_TooMany : Ec P w K mg base "TooMany" "TooMany.__init__" st_TooMany bOE 1 ["many"] okF) (E_Unlike : Ez K mg "Unlike") : CalG P w K mg base "_law_made" st__law_made 3 ["_law_one"] 1 fn__law_made :=
  mk_defG A sc__law_made rfl fun f cdv A outer s H E hr hG => by
    have hu := hr.units
    exact s_cons (s_set (i := 1) sc__law_made.nd rfl (Or.inl rfl) (p_lst (l_cons (p_mk E_NoProgram hr (by decide) hG (by rfl) (l_cons (p_var (pv 0)) (l_cons (p_c pe_int fun _ => .int _) (l_cons (p_var (pv 0)) (l_nil))))) (l_cons (p_mk E_NoSet hr (by decide) hG (by rfl) (l_cons (p_var (pv 0)) (l_nil))) (l_cons (p_mk E_NoNames hr (by decide) hG (by rfl) (l_cons (p_var (pv 0)) (l_nil))) (l_cons (p_mk E_NoText hr (by decide) hG (by rfl) (l_cons (p_var (pv 0)) (l_nil))) (l_cons (p_mk E_NoRun hr (by decide) hG (by rfl) (l_cons (p_var (pv 0)) (l_nil))) (l_cons (p_exz E_NoStep (by rfl) (p_c pe_str fun _ => .str _)) (l_cons (p_exz E_NoNumber (by rfl) (p_c pe_str fun _ => .str _)) (l_nil)))))))))) (s_cons (s_set (i := 1) sc__law_made.nd rfl (Or.inl rfl) (p_op o_addA (p_var (pv 1)) (p_lst (l_cons (p_exz E_NoLine (by rfl) (p_c pe_str fun _ => .str _)) (l_cons (p_exz E_NoNet (by rfl) (p_c pe_str fun _ => .str _)) (l_cons (p_exz E_NoMarking (by rfl) (p_c pe_str fun _ => .str _)) (l_cons (p_exz E_NoTeller (by rfl) (p_c pe_str fun _ => .str _)) (l_cons (p_exz E_NoRow (by rfl) (p_c pe_str fun _ => .str _)) (l_cons (p_exz E_Unlike (by rfl) (p_c pe_str fun _ => .str _)) (l_nil)))))))))) (s_cons (s_set (i := 1) sc__law_made.nd rfl (Or.inl rfl) (p_op o_addA (p_var (pv 1)) (p_lst (l_cons (p_mk E_NoKind hr (by decide) hG (by rfl) (l_cons (p_var (pv 0)) (l_nil))) (l_cons (p_mk E_NoBody hr (by decide) hG (by rfl) (l_cons (p_var (pv 0)) (l_nil))) (l_cons (p_mk E_NoHouse hr (by decide) hG (by rfl) (l_cons (p_var (pv 0)) (l_nil))) (l_cons (p_mk E_NoLot hr (by decide) hG (by rfl) (l_cons (p_var (pv 0)) (l_nil))) (l_cons (p_mk E_NoState hr (by decide) hG (by rfl) (l_cons (p_var (pv 0)) (l_nil))) (l_cons (p_mk E_NoRule hr (by decide) hG (by rfl) (l_cons (p_var (pv 0)) (l_nil))) (l_nil)))))))))) (s_cons (s_ret (p_op o_addA (p_var (pv 1)) (p_lst (l_cons (p_exz E_NoDesk (by rfl) (p_c pe_str fun _ => .str _)) (l_cons (p_mk E_TooMany hr (by decide) hG (by rfl) (l_cons (p_var (pv 0)) (l_nil))) (l_nil)))))) (s_nil))))
abbrev st__law_kinds : Stmt := topS 76
theorem sc__law_kinds : FnScope ["_law_error", "_law_found"] ["_law_error"] (defScope st__law_kinds) := ⟨rfl, rfl, rfl, by decide +kernel, rfl, by decide +kernel, by decide +kernel⟩
def m__law_kinds : En → Option Out := seqO (fun δ => ((disp .list (fun δ => ((fun δ => ((fun δ => (δ[0]?).join) δ).bind (isXD (tbl "NoProgram"))) δ).bind fun x => ((fun δ => ((fun δ => ((fun δ => (δ[0]?).join) δ).bind (isXD (tbl "NoSet"))) δ).bind fun x => ((fun δ => ((fun δ => ((fun δ => (δ[0]?).join) δ).bind (isXD (tbl "NoNames"))) δ).bind fun x => ((fun _ => some []) δ).bind fun r => some (x :: r)) δ).bind fun r => some (x :: r)) δ).bind fun r => some (x :: r))) δ).bind fun d => some (.nx (δ.set 1 (some d)))) (seqO (fun δ => ((fun δ => ((fun δ => (δ[1]?).join) δ).bind fun x => ((disp .list (fun δ => ((fun δ => ((fun δ => (δ[0]?).join) δ).bind (isXD (tbl "NoText"))) δ).bind fun x => ((fun δ => ((fun δ => ((fun δ => (δ[0]?).join) δ).bind (isXD (tbl "NoRun"))) δ).bind fun x => ((fun δ => ((fun δ => ((fun δ => (δ[0]?).join) δ).bind (isXD (tbl "NoStep"))) δ).bind fun x => ((fun _ => some []) δ).bind fun r => some (x :: r)) δ).bind fun r => some (x :: r)) δ).bind fun r => some (x :: r))) δ).bind fun y => addD x y) δ).bind fun d => some (.nx (δ.set 1 (some d)))) (seqO (fun δ => ((fun δ => ((fun δ => (δ[1]?).join) δ).bind fun x => ((disp .list (fun δ => ((fun δ => ((fun δ => (δ[0]?).join) δ).bind (isXD (tbl "NoNumber"))) δ).bind fun x => ((fun δ => ((fun δ => ((fun δ => (δ[0]?).join) δ).bind (isXD (tbl "NoLine"))) δ).bind fun x => ((fun δ => ((fun δ => ((fun δ => (δ[0]?).join) δ).bind (isXD (tbl "NoNet"))) δ).bind fun x => ((fun _ => some []) δ).bind fun r => some (x :: r)) δ).bind fun r => some (x :: r)) δ).bind fun r => some (x :: r))) δ).bind fun y => addD x y) δ).bind fun d => some (.nx (δ.set 1 (some d)))) (seqO (fun δ => ((fun δ => ((fun δ => (δ[1]?).join) δ).bind fun x => ((disp .list (fun δ => ((fun δ => ((fun δ => (δ[0]?).join) δ).bind (isXD (tbl "NoMarking"))) δ).bind fun x => ((fun δ => ((fun δ => ((fun δ => (δ[0]?).join) δ).bind (isXD (tbl "NoTeller"))) δ).bind fun x => ((fun δ => ((fun δ => ((fun δ => (δ[0]?).join) δ).bind (isXD (tbl "NoRow"))) δ).bind fun x => ((fun _ => some []) δ).bind fun r => some (x :: r)) δ).bind fun r => some (x :: r)) δ).bind fun r => some (x :: r))) δ).bind fun y => addD x y) δ).bind fun d => some (.nx (δ.set 1 (some d)))) (seqO (fun δ => ((fun δ => ((fun δ => (δ[1]?).join) δ).bind fun x => ((disp .list (fun δ => ((fun δ => ((fun δ => (δ[0]?).join) δ).bind (isXD (tbl "Unlike"))) δ).bind fun x => ((fun δ => ((fun δ => ((fun δ => (δ[0]?).join) δ).bind (isXD (tbl "NoKind"))) δ).bind fun x => ((fun δ => ((fun δ => ((fun δ => (δ[0]?).join) δ).bind (isXD (tbl "NoBody"))) δ).bind fun x => ((fun _ => some []) δ).bind fun r => some (x :: r)) δ).bind fun r => some (x :: r)) δ).bind fun r => some (x :: r))) δ).bind fun y => addD x y) δ).bind fun d => some (.nx (δ.set 1 (some d)))) (seqO (fun δ => ((fun δ => ((fun δ => (δ[1]?).join) δ).bind fun x => ((disp .list (fun δ => ((fun δ => ((fun δ => (δ[0]?).join) δ).bind (isXD (tbl "NoHouse"))) δ).bind fun x => ((fun δ => ((fun δ => ((fun δ => (δ[0]?).join) δ).bind (isXD (tbl "NoLot"))) δ).bind fun x => ((fun δ => ((fun δ => ((fun δ => (δ[0]?).join) δ).bind (isXD (tbl "NoState"))) δ).bind fun x => ((fun _ => some []) δ).bind fun r => some (x :: r)) δ).bind fun r => some (x :: r)) δ).bind fun r => some (x :: r))) δ).bind fun y => addD x y) δ).bind fun d => some (.nx (δ.set 1 (some d)))) (seqO (fun δ => ((fun δ => ((fun δ => (δ[1]?).join) δ).bind fun x => ((disp .list (fun δ => ((fun δ => ((fun δ => (δ[0]?).join) δ).bind (isXD (tbl "NoRule"))) δ).bind fun x => ((fun δ => ((fun δ => ((fun δ => (δ[0]?).join) δ).bind (isXD (tbl "NoDesk"))) δ).bind fun x => ((fun δ => ((fun δ => ((fun δ => (δ[0]?).join) δ).bind (isXD (tbl "TooMany"))) δ).bind fun x => ((fun _ => some []) δ).bind fun r => some (x :: r)) δ).bind fun r => some (x :: r)) δ).bind fun r => some (x :: r))) δ).bind fun y => addD x y) δ).bind fun d => some (.rt d)) (fun δ => some (.nx δ))))))))
def fn__law_kinds : List D → Option D := fnD 2 m__law_kinds
theorem ok__law_kinds (T : Fx K mg) (A : Dfn K mg "_law_kinds" st__law_kinds ["_law_error"]) : Cal P w K mg base "_law_kinds" st__law_kinds 1 ["_law_error"] 1 fn__law_kinds :=
  mk_def A sc__law_kinds rfl fun f cdv A outer s H E hr => by
    have hu := hr.units
    exact s_cons (s_set (i := 1) sc__law_kinds.nd rfl (Or.inl rfl) (p_lst (l_cons (p_isO T.i_NoProgram (by rfl) T.z_isinstance (by rfl) (p_var (pv 0))) (l_cons (p_isO T.i_NoSet (by rfl) T.z_isinstance (by rfl) (p_var (pv 0))) (l_cons (p_isO T.i_NoNames (by rfl) T.z_isinstance (by rfl) (p_var (pv 0))) (l_nil)))))) (s_cons (s_set (i := 1) sc__law_kinds.nd rfl (Or.inl rfl) (p_op o_addA (p_var (pv 1)) (p_lst (l_cons (p_isO T.i_NoText (by rfl) T.z_isinstance (by rfl) (p_var (pv 0))) (l_cons (p_isO T.i_NoRun (by rfl) T.z_isinstance (by rfl) (p_var (pv 0))) (l_cons (p_isO T.i_NoStep (by rfl) T.z_isinstance (by rfl) (p_var (pv 0))) (l_nil))))))) (s_cons (s_set (i := 1) sc__law_kinds.nd rfl (Or.inl rfl) (p_op o_addA (p_var (pv 1)) (p_lst (l_cons (p_isO T.i_NoNumber (by rfl) T.z_isinstance (by rfl) (p_var (pv 0))) (l_cons (p_isO T.i_NoLine (by rfl) T.z_isinstance (by rfl) (p_var (pv 0))) (l_cons (p_isO T.i_NoNet (by rfl) T.z_isinstance (by rfl) (p_var (pv 0))) (l_nil))))))) (s_cons (s_set (i := 1) sc__law_kinds.nd rfl (Or.inl rfl) (p_op o_addA (p_var (pv 1)) (p_lst (l_cons (p_isO T.i_NoMarking (by rfl) T.z_isinstance (by rfl) (p_var (pv 0))) (l_cons (p_isO T.i_NoTeller (by rfl) T.z_isinstance (by rfl) (p_var (pv 0))) (l_cons (p_isO T.i_NoRow (by rfl) T.z_isinstance (by rfl) (p_var (pv 0))) (l_nil))))))) (s_cons (s_set (i := 1) sc__law_kinds.nd rfl (Or.inl rfl) (p_op o_addA (p_var (pv 1)) (p_lst (l_cons (p_isO T.i_Unlike (by rfl) T.z_isinstance (by rfl) (p_var (pv 0))) (l_cons (p_isO T.i_NoKind (by rfl) T.z_isinstance (by rfl) (p_var (pv 0))) (l_cons (p_isO T.i_NoBody (by rfl) T.z_isinstance (by rfl) (p_var (pv 0))) (l_nil))))))) (s_cons (s_set (i := 1) sc__law_kinds.nd rfl (Or.inl rfl) (p_op o_addA (p_var (pv 1)) (p_lst (l_cons (p_isO T.i_NoHouse (by rfl) T.z_isinstance (by rfl) (p_var (pv 0))) (l_cons (p_isO T.i_NoLot (by rfl) T.z_isinstance (by rfl) (p_var (pv 0))) (l_cons (p_isO T.i_NoState (by rfl) T.z_isinstance (by rfl) (p_var (pv 0))) (l_nil))))))) (s_cons (s_ret (p_op o_addA (p_var (pv 1)) (p_lst (l_cons (p_isO T.i_NoRule (by rfl) T.z_isinstance (by rfl) (p_var (pv 0))) (l_cons (p_isO T.i_NoDesk (by rfl) T.z_isinstance (by rfl) (p_var (pv 0))) (l_cons (p_isO T.i_TooMany (by rfl) T.z_isinstance (by rfl) (p_var (pv 0))) (l_nil))))))) (s_nil)))))))
abbrev st__law_under : Stmt := topS 77
theorem sc__law_under : FnScope ["_law_error", "_law_found"] ["_law_error"] (defScope st__law_under) := ⟨rfl, rfl, rfl, by decide +kernel, rfl, by decide +kernel, by decide +kernel⟩
def m__law_under : En → Option Out := seqO (fun δ => ((disp .list (fun δ => ((fun δ => ((fun δ => (δ[0]?).join) δ).bind (isXD (tbl "MeetError"))) δ).bind fun x => ((fun δ => ((fun δ => ((fun δ => (δ[0]?).join) δ).bind (isXD (tbl "ValueError"))) δ).bind fun x => ((fun δ => ((fun δ => ((fun δ => (δ[0]?).join) δ).bind (isXD (tbl "KeyError"))) δ).bind fun x => ((fun _ => some []) δ).bind fun r => some (x :: r)) δ).bind fun r => some (x :: r)) δ).bind fun r => some (x :: r))) δ).bind fun d => some (.nx (δ.set 1 (some d)))) (seqO (fun δ => ((fun δ => ((fun δ => (δ[1]?).join) δ).bind fun x => ((disp .list (fun δ => ((fun δ => ((fun δ => (δ[0]?).join) δ).bind (isXD (tbl "IndexError"))) δ).bind fun x => ((fun δ => ((fun δ => ((fun δ => (δ[0]?).join) δ).bind (isXD (tbl "LookupError"))) δ).bind fun x => ((fun δ => ((fun δ => ((fun δ => (δ[0]?).join) δ).bind (isXD (tbl "OverflowError"))) δ).bind fun x => ((fun _ => some []) δ).bind fun r => some (x :: r)) δ).bind fun r => some (x :: r)) δ).bind fun r => some (x :: r))) δ).bind fun y => addD x y) δ).bind fun d => some (.rt d)) (fun δ => some (.nx δ)))
def fn__law_under : List D → Option D := fnD 2 m__law_under
theorem ok__law_under (T : Fx K mg) (A : Dfn K mg "_law_under" st__law_under ["_law_error"]) : Cal P w K mg base "_law_under" st__law_under 1 ["_law_error"] 1 fn__law_under :=
  mk_def A sc__law_under rfl fun f cdv A outer s H E hr => by
    have hu := hr.units
    exact s_cons (s_set (i := 1) sc__law_under.nd rfl (Or.inl rfl) (p_lst (l_cons (p_isO T.i_MeetError (by rfl) T.z_isinstance (by rfl) (p_var (pv 0))) (l_cons (p_isB T.i_ValueError (by rfl) T.z_isinstance (by rfl) T.z_ValueError (by decide +kernel) (p_var (pv 0))) (l_cons (p_isB T.i_KeyError (by rfl) T.z_isinstance (by rfl) T.z_KeyError (by decide +kernel) (p_var (pv 0))) (l_nil)))))) (s_cons (s_ret (p_op o_addA (p_var (pv 1)) (p_lst (l_cons (p_isB T.i_IndexError (by rfl) T.z_isinstance (by rfl) T.z_IndexError (by decide +kernel) (p_var (pv 0))) (l_cons (p_isB T.i_LookupError (by rfl) T.z_isinstance (by rfl) T.z_LookupError (by decide +kernel) (p_var (pv 0))) (l_cons (p_isB T.i_OverflowError (by rfl) T.z_isinstance (by rfl) T.z_OverflowError (by decide +kernel) (p_var (pv 0))) (l_nil))))))) (s_nil))
abbrev st__law_fields_right : Stmt := topS 78
theorem sc__law_fields_right : FnScope ["_law_one", "_law_other", "_law_errors_now", "_law_told", "_law_error"] ["_law_one", "_law_other"] (defScope st__law_fields_right) := ⟨rfl, rfl, rfl, by decide +kernel, rfl, by decide +kernel, by decide +kernel⟩
def m__law_fields_right : En → Option Out := seqO (fun δ => ((fun δ => ((fun δ => ((fun δ => (δ[0]?).join) δ).bind fun x => ((fun _ => some []) δ).bind fun r => some (x :: r)) δ).bind fun r => if r.length = 1 then fn__law_made r else none) δ).bind fun d => some (.nx (δ.set 2 (some d)))) (seqO (fun δ => ((disp .list (fun δ => ((fun δ => ((fun δ => ((fun δ => (δ[2]?).join) δ).bind fun x => ((fun _ => some (.int 0)) δ).bind fun y => ixD x y) δ).bind (fldD tbF "kind")) δ).bind fun x => ((fun δ => ((fun δ => ((fun δ => ((fun δ => (δ[2]?).join) δ).bind fun x => ((fun _ => some (.int 0)) δ).bind fun y => ixD x y) δ).bind (fldD tbF "rule")) δ).bind fun x => ((fun δ => ((fun δ => ((fun δ => ((fun δ => (δ[2]?).join) δ).bind fun x => ((fun _ => some (.int 0)) δ).bind fun y => ixD x y) δ).bind (fldD tbF "deed")) δ).bind fun x => ((fun δ => ((fun δ => ((fun δ => ((fun δ => (δ[2]?).join) δ).bind fun x => ((fun _ => some (.int 1)) δ).bind fun y => ixD x y) δ).bind (fldD tbF "thing")) δ).bind fun x => ((fun δ => ((fun δ => ((fun δ => ((fun δ => (δ[2]?).join) δ).bind fun x => ((fun _ => some (.int 2)) δ).bind fun y => ixD x y) δ).bind (fldD tbF "thing")) δ).bind fun x => ((fun _ => some []) δ).bind fun r => some (x :: r)) δ).bind fun r => some (x :: r)) δ).bind fun r => some (x :: r)) δ).bind fun r => some (x :: r)) δ).bind fun r => some (x :: r))) δ).bind fun d => some (.nx (δ.set 3 (some d)))) (seqO (fun δ => ((fun δ => ((fun δ => ((fun δ => (δ[3]?).join) δ).bind fun x => ((disp .list (fun δ => ((fun δ => ((fun δ => ((fun δ => (δ[2]?).join) δ).bind fun x => ((fun _ => some (.int 3)) δ).bind fun y => ixD x y) δ).bind (fldD tbF "row")) δ).bind fun x => ((fun δ => ((fun δ => ((fun δ => ((fun δ => (δ[2]?).join) δ).bind fun x => ((fun _ => some (.int 4)) δ).bind fun y => ixD x y) δ).bind (fldD tbF "number")) δ).bind fun x => ((fun _ => some []) δ).bind fun r => some (x :: r)) δ).bind fun r => some (x :: r))) δ).bind fun y => addD x y) δ).bind fun x => ((fun δ => ((fun δ => ((fun δ => (δ[2]?).join) δ).bind (cutD 13 19)) δ).bind fun d => if 4 < δ.length then fldL tbF "thing" d else none) δ).bind fun y => addD x y) δ).bind fun d => some (.nx (δ.set 3 (some d)))) (seqO (fun δ => ((fun δ => ((fun δ => ((fun δ => ((fun δ => ((fun δ => (δ[3]?).join) δ).bind fun x => ((fun _ => some []) δ).bind fun r => some (x :: r)) δ).bind shownD) δ).bind fun x => ((fun δ => ((fun δ => ((fun δ => ((disp .list (fun δ => ((fun δ => (δ[0]?).join) δ).bind fun x => ((fun δ => ((fun _ => some (.int 5)) δ).bind fun x => ((fun δ => ((fun δ => (δ[0]?).join) δ).bind fun x => ((fun _ => some []) δ).bind fun r => some (x :: r)) δ).bind fun r => some (x :: r)) δ).bind fun r => some (x :: r))) δ).bind fun x => ((fun δ => ((disp .list (fun δ => ((fun δ => (δ[0]?).join) δ).bind fun x => ((fun _ => some []) δ).bind fun r => some (x :: r))) δ).bind fun x => ((fun _ => some (.int 10)) δ).bind fun y => repD x y) δ).bind fun y => addD x y) δ).bind fun x => ((fun _ => some []) δ).bind fun r => some (x :: r)) δ).bind shownD) δ).bind fun y => (neD x y).bind asB) δ).bind fun k => if k then some true else (fun δ => ((fun δ => ((fun δ => ((fun δ => ((fun δ => ((fun δ => (δ[2]?).join) δ).bind fun x => ((fun _ => some (.int 20)) δ).bind fun y => ixD x y) δ).bind (fldD tbF "many")) δ).bind fun x => ((fun _ => some []) δ).bind fun r => some (x :: r)) δ).bind shownD) δ).bind fun x => ((fun δ => ((fun δ => ((fun δ => (δ[0]?).join) δ).bind fun x => ((fun _ => some []) δ).bind fun r => some (x :: r)) δ).bind shownD) δ).bind fun y => (neD x y).bind asB) δ) δ).bind fun k => if k then (seqO (fun δ => ((fun _ => some (.bool false)) δ).bind fun d => some (.rt d)) (fun δ => some (.nx δ))) δ else (fun δ => some (.nx δ)) δ) (seqO (fun δ => ((fun δ => ((fun δ => ((fun δ => (δ[0]?).join) δ).bind fun x => ((fun δ => ((fun δ => (δ[1]?).join) δ).bind fun x => ((fun δ => ((fun _ => some (.int 5)) δ).bind fun x => ((fun _ => some []) δ).bind fun r => some (x :: r)) δ).bind fun r => some (x :: r)) δ).bind fun r => some (x :: r)) δ).bind fun r => (rev3 r).bind (mkD "NoProgram" ["kind", "rule", "deed"] okF)) δ).bind fun d => some (.nx (δ.set 4 (some d)))) (seqO (fun δ => ((fun δ => ((fun δ => ((fun δ => ((disp .list (fun δ => ((fun δ => ((fun δ => (δ[4]?).join) δ).bind (fldD tbF "kind")) δ).bind fun x => ((fun δ => ((fun δ => ((fun δ => (δ[4]?).join) δ).bind (fldD tbF "rule")) δ).bind fun x => ((fun δ => ((fun δ => ((fun δ => (δ[4]?).join) δ).bind (fldD tbF "deed")) δ).bind fun x => ((fun _ => some []) δ).bind fun r => some (x :: r)) δ).bind fun r => some (x :: r)) δ).bind fun r => some (x :: r))) δ).bind fun x => ((fun _ => some []) δ).bind fun r => some (x :: r)) δ).bind shownD) δ).bind fun x => ((fun δ => ((fun δ => ((disp .list (fun δ => ((fun _ => some (.int 5)) δ).bind fun x => ((fun δ => ((fun δ => (δ[1]?).join) δ).bind fun x => ((fun δ => ((fun δ => (δ[0]?).join) δ).bind fun x => ((fun _ => some []) δ).bind fun r => some (x :: r)) δ).bind fun r => some (x :: r)) δ).bind fun r => some (x :: r))) δ).bind fun x => ((fun _ => some []) δ).bind fun r => some (x :: r)) δ).bind shownD) δ).bind fun y => (neD x y).bind asB) δ).bind fun k => if k then (seqO (fun δ => ((fun _ => some (.bool false)) δ).bind fun d => some (.rt d)) (fun δ => some (.nx δ))) δ else (fun δ => some (.nx δ)) δ) (seqO (fun δ => ((fun δ => ((fun δ => ((fun δ => ((disp .list (fun δ => ((fun δ => ((fun δ => ((fun δ => ((fun δ => (δ[0]?).join) δ).bind fun x => ((fun _ => some []) δ).bind fun r => some (x :: r)) δ).bind fun r => (rev1 r).bind (mkD "NoText" ["row"] okF)) δ).bind (fldD tbF "row")) δ).bind fun x => ((fun δ => ((fun δ => ((fun δ => ((fun δ => ((fun δ => (δ[1]?).join) δ).bind fun x => ((fun _ => some []) δ).bind fun r => some (x :: r)) δ).bind fun r => (rev1 r).bind (mkD "NoRun" ["number"] okF)) δ).bind (fldD tbF "number")) δ).bind fun x => ((fun δ => ((fun δ => ((fun δ => ((fun δ => ((fun δ => (δ[0]?).join) δ).bind fun x => ((fun _ => some []) δ).bind fun r => some (x :: r)) δ).bind fun r => (rev1 r).bind (mkD "NoLot" ["thing"] okA)) δ).bind (fldD tbF "thing")) δ).bind fun x => ((fun _ => some []) δ).bind fun r => some (x :: r)) δ).bind fun r => some (x :: r)) δ).bind fun r => some (x :: r))) δ).bind fun x => ((fun _ => some []) δ).bind fun r => some (x :: r)) δ).bind shownD) δ).bind fun x => ((fun δ => ((fun δ => ((disp .list (fun δ => ((fun δ => (δ[0]?).join) δ).bind fun x => ((fun δ => ((fun δ => (δ[1]?).join) δ).bind fun x => ((fun δ => ((fun δ => (δ[0]?).join) δ).bind fun x => ((fun _ => some []) δ).bind fun r => some (x :: r)) δ).bind fun r => some (x :: r)) δ).bind fun r => some (x :: r))) δ).bind fun x => ((fun _ => some []) δ).bind fun r => some (x :: r)) δ).bind shownD) δ).bind fun y => eqD x y) δ).bind fun d => some (.rt d)) (fun δ => some (.nx δ))))))))
def fn__law_fields_right : List D → Option D := fnD 5 m__law_fields_right
theorem ok__law_fields_right (T : Fx K mg) (A : Dfn K mg "_law_fields_right" st__law_fields_right ["_law_one", "_law_other"]) (C__law_made : CalG P w K mg base "_law_made" st__law_made 3 ["_law_one"] 1 fn__law_made) (E_NoLot : Ec P w K mg base "NoLot" "NoLot.__init__" st_NoLot bIE 1 ["thing"] okA) (E_NoProgram : Ec P w K mg base "NoProgram" "NoProgram.__init__" st_NoProgram bVE 1 ["kind", "rule", "deed"] okF) (E_NoRun : Ec P w K mg base "NoRun" "NoRun.__init__" st_NoRun bVE 1 ["number"] okF) (E_NoText : Ec P w K mg base "NoText" "NoText.__init__" st_NoText bVE 1 ["row"] okF) : CalG P w K mg base "_law_fields_right" st__law_fields_right 4 ["_law_one", "_law_other"] 2 fn__law_fields_right :=
  mk_defG A sc__law_fields_right rfl fun f cdv A outer s H E hr hG => by
    have hu := hr.units
    exact s_cons (s_set (i := 2) sc__law_fields_right.nd rfl (Or.inl rfl) (c_callG C__law_made hr (by decide) hG (by rfl) (l_cons (p_var (pv 0)) (l_nil)))) (s_cons (s_set (i := 3) sc__law_fields_right.nd rfl (Or.inl rfl) (p_lst (l_cons (p_fld (tb := tbF) T.fld (p_ix (p_var (pv 2)) (p_c pe_int fun _ => .int _) (fun _ _ => rfl))) (l_cons (p_fld (tb := tbF) T.fld (p_ix (p_var (pv 2)) (p_c pe_int fun _ => .int _) (fun _ _ => rfl))) (l_cons (p_fld (tb := tbF) T.fld (p_ix (p_var (pv 2)) (p_c pe_int fun _ => .int _) (fun _ _ => rfl))) (l_cons (p_fld (tb := tbF) T.fld (p_ix (p_var (pv 2)) (p_c pe_int fun _ => .int _) (fun _ _ => rfl))) (l_cons (p_fld (tb := tbF) T.fld (p_ix (p_var (pv 2)) (p_c pe_int fun _ => .int _) (fun _ _ => rfl))) (l_nil)))))))) (s_cons (s_set (i := 3) sc__law_fields_right.nd rfl (Or.inl rfl) (p_op o_addA (p_op o_addA (p_var (pv 3)) (p_lst (l_cons (p_fld (tb := tbF) T.fld (p_ix (p_var (pv 2)) (p_c pe_int fun _ => .int _) (fun _ _ => rfl))) (l_cons (p_fld (tb := tbF) T.fld (p_ix (p_var (pv 2)) (p_c pe_int fun _ => .int _) (fun _ _ => rfl))) (l_nil))))) (p_lcF (i := 4) (tb := tbF) T.fld rfl sc__law_fields_right.nd (p_slc (p_var (pv 2)) pe_int pe_int) (blkOk_by (own := [("_law_error", 4)]) (N := ["_law_one", "_law_other", "_law_errors_now", "_law_told", "_law_error"]) (sc := (defScope st__law_fields_right)) (by decide +kernel)) (fun _ _ _ _ _ => pg_name (i := 4) sc__law_fields_right.nd rfl (Or.inl rfl)) (fun _ _ _ _ _ => pv 4)))) (s_cons (s_if ((q_or (q_cmp (o_ne hu) (p_callB (c_repr hG hu) (by rfl) T.z_repr (by decide +kernel) (l_cons (p_var (pv 3)) (l_nil))) (p_callB (c_repr hG hu) (by rfl) T.z_repr (by decide +kernel) (l_cons (p_op o_addA (p_lst (l_cons (p_var (pv 0)) (l_cons (p_c pe_int fun _ => .int _) (l_cons (p_var (pv 0)) (l_nil))))) (p_op o_rep (p_lst (l_cons (p_var (pv 0)) (l_nil))) (p_c pe_int fun _ => .int _))) (l_nil))) (nobehind _ (by decide) (by decide))) (pw_or1 (q_cmp (o_ne hu) (p_callB (c_repr hG hu) (by rfl) T.z_repr (by decide +kernel) (l_cons (p_fld (tb := tbF) T.fld (p_ix (p_var (pv 2)) (p_c pe_int fun _ => .int _) (fun _ _ => rfl))) (l_nil))) (p_callB (c_repr hG hu) (by rfl) T.z_repr (by decide +kernel) (l_cons (p_var (pv 0)) (l_nil))) (nobehind _ (by decide) (by decide))))).pt) (s_cons (s_ret (p_c pe_bl fun _ => .bl _)) (s_nil)) (s_nil)) (s_cons (s_set (i := 4) sc__law_fields_right.nd rfl (Or.inl rfl) (p_mkK (wp := List.reverse) (up := List.reverse) (perm := rev3) (ks := ["deed", "rule", "kind"]) E_NoProgram hr (by decide) hG (by rfl) (fun _ _ _ _ _ _ _ ws hl => match ws, hl with | [_, _, _], _ => rfl) rev3_v rev3_dt (k_cons (p_var (pv 0)) (k_cons (p_var (pv 1)) (k_cons (p_c pe_int fun _ => .int _) (k_nil)))))) (s_cons (s_if (q_cmp (o_ne hu) (p_callB (c_repr hG hu) (by rfl) T.z_repr (by decide +kernel) (l_cons (p_lst (l_cons (p_fld (tb := tbF) T.fld (p_var (pv 4))) (l_cons (p_fld (tb := tbF) T.fld (p_var (pv 4))) (l_cons (p_fld (tb := tbF) T.fld (p_var (pv 4))) (l_nil))))) (l_nil))) (p_callB (c_repr hG hu) (by rfl) T.z_repr (by decide +kernel) (l_cons (p_lst (l_cons (p_c pe_int fun _ => .int _) (l_cons (p_var (pv 1)) (l_cons (p_var (pv 0)) (l_nil))))) (l_nil))) (nobehind _ (by decide) (by decide))) (s_cons (s_ret (p_c pe_bl fun _ => .bl _)) (s_nil)) (s_nil)) (s_cons (s_ret (p_cmp (o_eq hu) (p_callB (c_repr hG hu) (by rfl) T.z_repr (by decide +kernel) (l_cons (p_lst (l_cons (p_fld (tb := tbF) T.fld (p_mkK (wp := id) (up := id) (perm := rev1) (ks := ["row"]) E_NoText hr (by decide) hG (by rfl) (fun _ _ _ _ _ _ _ ws hl => match ws, hl with | [_], _ => rfl) (fun h _ => h) rev1_dt (k_cons (p_var (pv 0)) (k_nil)))) (l_cons (p_fld (tb := tbF) T.fld (p_mkK (wp := id) (up := id) (perm := rev1) (ks := ["number"]) E_NoRun hr (by decide) hG (by rfl) (fun _ _ _ _ _ _ _ ws hl => match ws, hl with | [_], _ => rfl) (fun h _ => h) rev1_dt (k_cons (p_var (pv 1)) (k_nil)))) (l_cons (p_fld (tb := tbF) T.fld (p_mkK (wp := id) (up := id) (perm := rev1) (ks := ["thing"]) E_NoLot hr (by decide) hG (by rfl) (fun _ _ _ _ _ _ _ ws hl => match ws, hl with | [_], _ => rfl) (fun h _ => h) rev1_dt (k_cons (p_var (pv 0)) (k_nil)))) (l_nil))))) (l_nil))) (p_callB (c_repr hG hu) (by rfl) T.z_repr (by decide +kernel) (l_cons (p_lst (l_cons (p_var (pv 0)) (l_cons (p_var (pv 1)) (l_cons (p_var (pv 0)) (l_nil))))) (l_nil))) (nobehind _ (by decide) (by decide)))) (s_nil)))))))
end
end W4

namespace W4
open PySem PySem.Spec PyProof.Rows L2 Wn
/-! ### NoProgram(None, None, None), raised and caught -/
def f3 : List (Str × V) := [("deed", .non), ("rule", .non), ("kind", .non)]
def tNn (te : TE) : TE := fun σ H Q => te σ H fun x H1 => x = .non ∧ Q (.str "None") H1
theorem pe_fmN {X : Cx} {e : Expr} {te : TE} {pos : Pos} (he : PE X e te) : PE X (.FormattedValue e (-1) none pos) (tNn te) := by
  refine ⟨fun pins s σ H Q I h => wpAny_FormattedValue_plain (thn (he.run pins s σ H _ I h) fun v s1 hv => ?_)⟩
  obtain ⟨x, H1, J, rx, rfl, q⟩ := hv
  cases rx
  exact wpAny_formatField_none ⟨.str "None", H1, J.tok _, ⟨_, rfl⟩, q⟩
theorem js_n {ts : List TE} {acc : Str} {σ : L2.St} {H : Hp} {Q : Str → Hp → Prop} {i : Nat} (n : Nat) (ha : acc.length ≤ n) (hn : n + 4 ≤ 9000) (hv : σ[i]? = some (some .non)) (k : ∀ z : Str, z.length ≤ n + 4 → tJs ts z σ H Q) : tJs (tNn (tVar i) :: ts) acc σ H Q := by
  have l : ("None" : Str).length = 4 := by decide +kernel
  exact ⟨.non, hv, rfl, "None", rfl, by rw [strLen_append, sizeLine_eq, l]; omega, k _ (by rw [strLen_append, l]; omega)⟩
def spI0 (C : Addr) : Sp := fun vs H Q _ => ∃ a : Addr, vs = [.ref a, .non, .non, .non] ∧ H a = some (exo a C none) ∧ ∀ dx, H dx = none → dx ≠ a → Q .non (upd (upd H dx (exd dx f3)) a (exo a C (some dx)))
theorem oexC {K : PySem.W.Frag} {C : Addr} (T : XC bVE K C) : OexC K C := by
  have r : ∀ l : List Value, refsT bVE.tail l = true → PySem.HandSPX.refsVE l = true := by
    intro l
    induction l with
    | nil => intro h; exact h
    | cons a r ih =>
      intro h
      cases a with
      | ref c => exact ih h
      | _ => exact h
  obtain ⟨nm, q, N, bs, bm, sn, sub, ab, col, dd, k0, k1, k2, k3, k5, hC, tl⟩ := T.cls
  exact ⟨⟨nm, q, N, bs, bm, sn, sub, ab, col, dd, k0, k1, k2, k3, k5, hC, r bm tl⟩, T.sa, T.e.hs, T.ty, T.kp⟩
abbrev st_look : Stmt := topS 59
abbrev st__law_refused : Stmt := topS 79
theorem sc_look : FnScope ["thing", "kinds", "main", "names", "kind", "at", "wrong"] ["thing"] (defScope st_look) := ⟨rfl, rfl, rfl, by decide +kernel, rfl, by decide +kernel, by decide +kernel⟩
theorem sc__law_refused : FnScope ["_law_odd_one", "e"] ["_law_odd_one"] (defScope st__law_refused) := ⟨rfl, rfl, rfl, by decide +kernel, rfl, by decide +kernel, by decide +kernel⟩
theorem pss_dead {X : Cx} {sts : List Stmt} : PSs X sts (fun _ _ _ => False) := ⟨fun _ _ _ _ _ _ h => h.elim⟩
/-- what is no frame is refused -/
def spLook (K : PySem.W.Frag) (C : Addr) : Sp := fun vs H Q E => Sy H ∧ ∃ (v : V) (d : D), vs = [v] ∧ Dt K H v d ∧ fn_is_frame [d] = some (.bool false) ∧ ∀ dd H', Same H H' → H' dd = some (.xd f3) → E (.ref C) (some dd) H'
section
variable {P : Program} {w : World} {K : PySem.W.Frag} {mg : Str → Option Value} {base : Heap}
theorem in_NoProgram0 (T : Fx K mg) {C fI : Addr} {fd : FuncData} (TC : XC bVE K C) (n0 : PySem.W.findIn K (.ref C) "kind" = some none) (n1 : PySem.W.findIn K (.ref C) "rule" = some none) (n2 : PySem.W.findIn K (.ref C) "deed" = some none) (U : Fun K "__init__" "NoProgram.__init__" st_NoProgram fI fd) :
    FnOk P w K mg base CX0 1 fI fd ["self", "kind", "rule", "deed"] (spI0 C) := by
  refine U.ok sc_NoProgram (fun vs H Q E h => ?_) (fun cdv A outer s H vs Q E hr h => ?_)
  · obtain ⟨a, rfl, _⟩ := h
    rfl
  · obtain ⟨a, rfl, ha, q⟩ := h
    obtain ⟨D, mD, rD, sD, vD⟩ := T.meet
    refine ⟨_, pss_cons (ps_expr (pe_inO (b := bVE) (by rfl) mD rD sD vD (by decide +kernel) (pa_cons (pv 0) (pa_cons (pe_joined (.cons pe_str (.cons (pe_fmN (pv 1)) (.cons pe_str (.cons (pe_fmN (pv 2)) (.cons pe_str (.cons (pe_fmN (pv 3)) .nil))))))) pa_nil)))) (pss_cons (ps_st (b := bVE) (pv 0) (pv 1)) (pss_cons (ps_st (b := bVE) (pv 0) (pv 2)) (pss_one (ps_st (b := bVE) (pv 0) (pv 3))))), ?_⟩
    refine ⟨_, rfl, js_c 0 (by decide) (by decide +kernel) fun z1 h1 => js_n 100 (Nat.le_trans h1 (by decide +kernel)) (by decide) rfl fun z2 h2 => js_c 104 (by exact h2) (by decide +kernel) fun z3 h3 => js_n 200 (Nat.le_trans h3 (by decide +kernel)) (by decide) rfl fun z4 h4 => js_c 204 (by exact h4) (by decide +kernel) fun z5 h5 => js_n 300 (Nat.le_trans h5 (by decide +kernel)) (by decide) rfl fun z6 h6 =>
      ⟨a, C, _, rfl, by show 1 ≤ 1000; decide, TC, ha, ?_⟩⟩
    refine ⟨_, rfl, _, rfl, a, C, rfl, TC, n0, .inl ⟨ha, fun dx n ne => ?_⟩⟩
    have g1 : ∀ f : List (Str × V), upd (upd H dx (exd dx f)) a (exo a C (some dx)) a = some (exo a C (some dx)) := fun f => upd_same
    have g2 : ∀ f : List (Str × V), upd (upd H dx (exd dx f)) a (exo a C (some dx)) dx = some (exd dx f) := fun f => by rw [upd_ne ne, upd_same]
    have sw : ∀ (f g : List (Str × V)), upd (upd (upd H dx (exd dx f)) a (exo a C (some dx))) dx (exd dx g) = upd (upd H dx (exd dx g)) a (exo a C (some dx)) := fun f g => by
      funext c
      by_cases h1 : c = dx
      · subst h1
        rw [upd_same, upd_ne ne, upd_same]
      · by_cases h2 : c = a
        · subst h2
          rw [upd_ne h1, upd_same, upd_same]
        · rw [upd_ne h1, upd_ne h2, upd_ne h1, upd_ne h2, upd_ne h1]
    refine ⟨_, rfl, _, rfl, a, C, rfl, TC, n1, .inr ⟨dx, _, g1 _, g2 _, by show 1 ≤ 900; decide, ?_⟩⟩
    rw [sw]
    refine ⟨_, rfl, _, rfl, a, C, rfl, TC, n2, .inr ⟨dx, _, g1 _, g2 _, by show 2 ≤ 900; decide, ?_⟩⟩
    rw [sw]
    exact q dx n ne
theorem ok_look (T : Fx K mg) {C fI f : Addr} {fdI fd : FuncData} (TC : XC bVE K C) (mC : mg "NoProgram" = some (.ref C)) (iC : PySem.W.findIn K (.ref C) "__init__" = some (some (.ref fI))) (tI : PySem.W.typeIn K (.ref fI) = some (.type "function"))
    (F1 : FnOk P w K mg base CX0 1 fI fdI ["self", "kind", "rule", "deed"] (spI0 C)) (bI : Binds K fdI ["self", "kind", "rule", "deed"] []) (CF : Cal P w K mg base "is_frame" st_is_frame 2 ["thing"] 1 fn_is_frame) (F : Fun K "look_at_program" "look_at_program" st_look f fd) :
    FnOk P w K mg base (L2.CX P w) 4 f fd ["thing"] (spLook K C) := by
  refine F.okX sc_look (fun vs H Q E h => ?_) (fun cdv A outer s H vs Q E hr h => ?_)
  · obtain ⟨_, v, d, rfl, _⟩ := h
    rfl
  · obtain ⟨sy, v, d, rfl, dv, hf, k⟩ := h
    refine ⟨_, pss_cons (ps_if (q_not (q_val (c_call CF hr (by decide) (by rfl) (l_cons (p_var (pv 0)) l_nil)))) (pss_one (ps_raise rfl (takes_of rfl rfl rfl rfl) (pmk_oex (oexC TC) iC tI F1 (hr.mono (by decide)) bI .nil pass0 (by rfl) mC (pa_cons pe_non (pa_cons pe_non (pa_cons pe_non pa_nil)))))) pss_nil) pss_dead, ?_⟩
    refine ⟨startD 7 [d], true, er_start (N := ["thing", "kinds", "main", "names", "kind", "at", "wrong"]) sy (.cons dv .nil), ?_, fun H1 s1 => iteT ?_⟩
    · show (((if [d].length = 1 then fn_is_frame [d] else none).bind asB).bind fun k => some !k) = some true
      rw [if_pos (show [d].length = 1 from rfl), hf]
      rfl
    · refine ⟨by show 3 ≤ 1000; decide, fun a na => ⟨a, rfl, upd_same, fun dx nd ne => ⟨rfl, dx, f3, upd_same, by rw [upd_ne ne, upd_same], ?_, ?_⟩⟩⟩
      · rw [upd_ne ne] at nd
        exact nd
      · have n0 : H1 dx = none := by rw [upd_ne ne] at nd; exact nd
        refine k dx _ (fun c o e => ?_) upd_same
        have e1 := s1 _ _ e
        rw [upd_ne (ne_of_none e1 n0), del_ne (ne_of_none e1 na), upd_ne (ne_of_none e1 na), upd_ne (ne_of_none e1 n0), upd_ne (ne_of_none e1 na)]
        exact e1
/-- repr([e.kind, e.rule, e.deed]) == repr([None, None, None]) in the suite -/
def tSu (K : PySem.W.Frag) (C a : Addr) (cls : Value) (d : Option Addr) : TE := fun σ H Q => σ[1]? = some (some (.ref a)) ∧ Sy H ∧ cls = .ref C ∧ ∃ dd, d = some dd ∧ H dd = some (.xd f3) ∧ ∀ H', Same H H' → Q (.bl true) H'
def notF : Option Bool → Option D
  | some false => some (.bool true)
  | _ => none
def gRef : List D → Option D
  | [d] => notF ((fn_is_frame [d]).bind asB)
  | _ => none
theorem gRef_some {ds : List D} {z : D} (h : gRef ds = some z) : ∃ d, ds = [d] ∧ fn_is_frame [d] = some (.bool false) ∧ z = .bool true := by
  match ds, h with
  | [d], h =>
    refine ⟨d, rfl, ?_⟩
    have h : notF ((fn_is_frame [d]).bind asB) = some z := h
    cases q : (fn_is_frame [d]).bind asB with
    | none => rw [q] at h; cases h
    | some b =>
      rw [q] at h
      cases b with
      | true => cases h
      | false =>
        cases h
        obtain ⟨x, e1, e2⟩ := bnd q
        rw [e1, asB_some e2]
        exact ⟨rfl, rfl⟩
theorem ok__law_refused (T : Fx K mg) {C : Addr} {q2 : Addr} {p2 : FuncData} (xf : XfC K C) (n0 : PySem.W.findIn K (.ref C) "kind" = some none) (n1 : PySem.W.findIn K (.ref C) "rule" = some none) (n2 : PySem.W.findIn K (.ref C) "deed" = some none) (mC : mg "NoProgram" = some (.ref C)) (ex : PySem.W.exmOne K (.ref C) (.ref C) = some true)
    (GL : FnOk P w K mg base (L2.CX P w) 4 q2 p2 ["thing"] (spLook K C)) (gL : mg "look_at_program" = some (.ref q2)) (kL : PySem.W.keepIn K (.ref q2) = true) (bL : Binds K p2 ["thing"] []) (A0 : Dfn K mg "_law_refused" st__law_refused ["_law_odd_one"]) :
    CalG P w K mg base "_law_refused" st__law_refused 5 ["_law_odd_one"] 1 gRef := by
  obtain ⟨f, fd, F, m, b⟩ := A0.ex
  refine ⟨f, fd, F, okG F sc__law_refused (fun vs H Q E z => ?_) (fun cdv A outer s H vs Q E hr hG z => ?_), m, b⟩
  · obtain ⟨_, ds, d, all, l, _⟩ := z
    rw [all.len, l]
    rfl
  · obtain ⟨sy, ds, d, all, l, e, q⟩ := z
    obtain ⟨d1, rfl, hf, rfl⟩ := gRef_some e
    have hu := hr.units
    match vs, all with
    | [v], .cons dv .nil =>
    refine ⟨_, pss_cons (ps_try_as (i := 1) (x := "NoProgram") (c := .ref C) (tb := fun W => tSeq (tDrop (tCallS (spLook K C) (WE W) (tCons (tVar 0) tNil))) tNext) (ts := fun a cls d => tSeq (tRet (tSu K C a cls d)) tNext) (Wout := fun _ _ _ _ => False) rfl rfl sc__law_refused.nd rfl rfl ⟨rfl, by decide, Or.inl mC⟩ takes0
        (fun W pn xe tk _ => pss_cons (ps_expr (pe_callS GL hr (by rfl) gL kL bL (fun σ => passAt tk σ) (pa_cons (pv 0) pa_nil))) pss_nil)
        (fun a oe cls dd pn hz hfl => pss_cons (ps_ret (imp (pe_cmpR (o_eq hu) (pe_callB (c_repr hG hu) (by rfl) T.z_repr (by decide +kernel) (pa_cons (pe_lst (pa_cons (pe_xf xf n0 hz hfl (pv 1)) (pa_cons (pe_xf xf n1 hz hfl (pv 1)) (pa_cons (pe_xf xf n2 hz hfl (pv 1)) pa_nil)))) pa_nil)) (pe_callB (c_repr hG hu) (by rfl) T.z_repr (by decide +kernel) (pa_cons (pe_lst (pa_cons pe_non (pa_cons pe_non (pa_cons pe_non pa_nil)))) pa_nil)) (nobehind _ (by decide) (by decide))) ?_)) pss_nil)) pss_dead, ?_⟩
    · intro σ H Q h
      obtain ⟨h1, sy, rfl, d2, rfl, hx, q⟩ := h
      refine ⟨_, h1, rfl, rfl, d2, f3, .non, rfl, hx, rfl, _, h1, rfl, rfl, d2, f3, .non, rfl, hx, rfl, _, h1, rfl, rfl, d2, f3, .non, rfl, hx, rfl, by show 3 ≤ sizeLine; decide, fun L hL => ?_⟩
      have s1 := same_new (o := .lst [.non, .non, .non]) hL
      have dl : ∀ {H : Hp} {L : Addr}, Dt K (upd H L (.lst [.non, .non, .non])) (.ref L) (.list [.none, .none, .none]) := fun {H L} => .lst upd_same (.cons .non (.cons .non (.cons .non .nil)))
      have sh : shownD [.list [.none, .none, .none]] = some (.str "[None, None, None]") := by kernel_rfl
      refine ⟨sy.on s1, [.list [.none, .none, .none]], _, .cons dl .nil, sh, fun v1 H1 t1 d1 => ?_⟩
      refine ⟨by show 3 ≤ sizeLine; decide, fun L2 hL2 => ?_⟩
      have s2 := same_new (o := .lst [.non, .non, .non]) hL2
      refine ⟨(sy.on s1).on (t1.trans s2), [.list [.none, .none, .none]], _, .cons dl .nil, sh, fun v2 H3 t3 d3 => ?_⟩
      refine ⟨_, _, .bool true, d1.on (s2.trans t3), d3, by kernel_rfl, fun v4 H4 t4 d4 => ?_⟩
      cases d4
      exact q _ (s1.trans (t1.trans (s2.trans (t3.trans t4))))
    · refine ⟨v, rfl, sy, v, d1, rfl, dv, hf, fun dd H1 s1 hx => ?_⟩
      refine ⟨true, ex, fun _ a na => ?_, fun z => Bool.noConfusion z⟩
      exact ⟨rfl, sy.on s1, rfl, dd, rfl, hx, fun H2 s2 => q _ _ (s1.trans s2) (.bl true)⟩
end
end W4


namespace W4
open PySem PySem.Spec PyProof.Rows L2 Wn
abbrev st__law_pool : Stmt := topS 73
abbrev st__law_take : Stmt := topS 74
theorem sc__law_pool : FnScope ["_law_script", "_law_k", "_law_cell", "_law_seed"] ["_law_script", "_law_k"] (defScope st__law_pool) := ⟨rfl, rfl, rfl, by decide +kernel, rfl, by decide +kernel, by decide +kernel⟩
theorem sc__law_take : FnScope ["_law_pool_here", "_law_size", "_law_found"] ["_law_pool_here", "_law_size"] (defScope st__law_take) := ⟨rfl, rfl, rfl, by decide +kernel, rfl, by decide +kernel, by decide +kernel⟩
section
variable {P : Program} {w : World} {K : PySem.W.Frag} {mg : Str → Option Value} {base : Heap}
theorem at0 (a b : V) : atI [a, b] 0 = some a := rfl
theorem at1 (a b : V) : atI [a, b] 1 = some b := rfl
theorem but_upd {H : Hp} {p : Addr} {o : HO} : But p H (upd H p o) := fun c x n e => by rw [upd_ne n]; exact e
theorem ok_take {f : Addr} {fd : FuncData} (F : Fun K "_law_take" "_law_take" st__law_take f fd) : FnOk P w K mg base CX0 1 f fd ["_law_pool_here", "_law_size"] spTake := by
  refine F.ok sc__law_take (fun vs H Q E h => ?_) (fun cdv A outer s H vs Q E hr h => ?_)
  · obtain ⟨p, n, rfl, _⟩ := h
    rfl
  · obtain ⟨p, n, rfl, n0, n1, ⟨a, b, hp, b0, b1⟩, q⟩ := h
    refine ⟨_, pss_cons (ps_if (pt_cmpR op_gt (pe_ix ix_list (pv 0) pe_int (fun _ _ => rfl)) pe_int (nomark _))
        (pss_cons (ps_set (i := 2) sc__law_take.nd rfl (Or.inl rfl) (pe_op op_mod (pe_ix ix_list (pv 0) pe_int (fun _ _ => rfl)) (pv 1)))
        (pss_cons (ps_asg (pe_op op_fdivW (pe_ix ix_list (pv 0) pe_int (fun _ _ => rfl)) (pv 1)) (pg_sub (pv 0) pe_int set_list))
        (pss_one (ps_ret (pv 2))))) pss_nil)
      (pss_cons (ps_asg (pe_op op_mod (pe_op op_add (pe_op op_mul (pe_ix ix_list (pv 0) pe_int (fun _ _ => rfl)) pe_int) pe_int) pe_int) (pg_sub (pv 0) pe_int set_list))
      (pss_one (ps_ret (pe_op op_mod (pe_op op_fdiv (pe_op op_mod (pe_op op_mul (pe_ix ix_list (pv 0) pe_int (fun _ _ => rfl)) (pe_ix ix_list (pv 0) pe_int (fun _ _ => rfl))) pe_int) pe_int) (pv 1))))), ?_⟩
    refine ⟨_, rfl, p, _, 0, _, rfl, rfl, SqL.of hp, at0 _ _, _, _, rfl, rfl, _, rfl, ite2 (fun e => ?_) (fun e => ?_)⟩
    · have ha : 0 < a := of_decide_eq_true e
      refine ⟨_, rfl, p, _, 0, _, rfl, rfl, SqL.of hp, at0 _ _, _, rfl, _, _, rfl, rfl, n0, ?_⟩
      refine ⟨_, rfl, p, _, 0, _, rfl, rfl, SqL.of hp, at0 _ _, _, rfl, _, _, rfl, rfl, wide_div (b := 40) n0 (by omega) (by decide) (by decide), ?_⟩
      refine ⟨_, rfl, p, _, 0, 0, rfl, rfl, hp, rfl, ?_⟩
      refine ⟨_, rfl, ?_⟩
      exact q _ _ (Int.emod_nonneg _ (by omega)) (Int.emod_lt_of_pos _ n0) ⟨but_upd, _, _, upd_same, b0, b1⟩
    · refine ⟨_, rfl, p, _, 1, _, rfl, rfl, SqL.of hp, at1 _ _, _, _, rfl, rfl, .inl ⟨by omega, by omega⟩, _, _, rfl, rfl, _, _, rfl, rfl, (by show (0 : Int) < 2147483647; decide), ?_⟩
      refine ⟨_, rfl, p, _, 1, 1, rfl, rfl, hp, rfl, ?_⟩
      have c0 : 0 ≤ (b * 48271 + 11) % 2147483647 := Int.emod_nonneg _ (by omega)
      have c1 : (b * 48271 + 11) % 2147483647 < 2147483647 := Int.emod_lt_of_pos _ (by omega)
      have hq : upd H p (.lst ([V.int a, .int b].set 1 (.int ((b * 48271 + 11) % 2147483647)))) p = some (.lst [.int a, .int ((b * 48271 + 11) % 2147483647)]) := upd_same
      refine ⟨_, rfl, p, _, 1, _, rfl, rfl, SqL.of hq, at1 _ _, _, rfl, p, _, 1, _, rfl, rfl, SqL.of hq, at1 _ _, _, _, rfl, rfl, .inl ⟨by omega, by omega⟩, _, _, rfl, rfl, (by show (0 : Int) < 2147483629; decide), _, _, rfl, rfl, ⟨by decide, by decide⟩, _, rfl, _, _, rfl, rfl, n0, ?_⟩
      exact q _ _ (Int.emod_nonneg _ (by omega)) (Int.emod_lt_of_pos _ n0) ⟨but_upd, _, _, hq, c0, c1⟩
def spPool (K : PySem.W.Frag) : Sp := fun vs H Q _ => ∃ (a : Addr) (ns : List Int) (k : Nat), vs = [.ref a, .int k] ∧ SqL K H a (ns.map V.int) ∧ ns.length ≤ 100 ∧ k ≤ 100 ∧ ∀ p H', Same H H' → PoolAt H' p → H p = none → Q (.ref p) H'
theorem cut_map (ns : List Int) (lo hi : Option Int) : ∃ ms : List Int, cutV (ns.map V.int) lo hi = ms.map V.int ∧ ms.length ≤ ns.length := by
  refine ⟨(ns.drop (HT.sIx ns.length 0 lo)).take (HT.sIx ns.length ns.length hi - HT.sIx ns.length 0 lo), ?_, ?_⟩
  · unfold cutV
    rw [List.length_map, List.map_take, List.map_drop]
  · rw [List.length_take, List.length_drop]; omega
theorem ok_pool (T : Fx K mg) {f : Addr} {fd : FuncData} (F : Fun K "_law_pool" "_law_pool" st__law_pool f fd) : FnOk P w K mg base CX0 1 f fd ["_law_script", "_law_k"] (spPool K) := by
  refine F.ok sc__law_pool (fun vs H Q E h => ?_) (fun cdv A outer s H vs Q E hr h => ?_)
  · obtain ⟨p, n, k, rfl, _⟩ := h
    rfl
  · obtain ⟨a, ns, k, rfl, hS, hl, hk, q⟩ := h
    refine ⟨_, pss_cons (ps_set (i := 2) sc__law_pool.nd rfl (Or.inl rfl) (pe_ix ix_list (pe_op op_cat (pe_slice sl_list (pv 0) (po_some (pv 1)) (po_some (pe_op op_add (pv 1) pe_int))) (pe_lst (pa_cons pe_int pa_nil))) pe_int (fun _ _ => rfl)))
      (pss_cons (ps_set (i := 3) sc__law_pool.nd rfl (Or.inl rfl) (pe_op op_mod (pe_op op_mul (pe_op op_add (pe_op op_add (pe_op op_mod (pv 2) pe_int) (pe_op op_mul pe_int (pv 1))) pe_int) pe_int) pe_int))
      (pss_one (ps_ret (pe_lst (pa_cons (pe_op op_mul (pv 2) (pe_callTy call_int1 (by rfl) T.z_int (by decide +kernel) (pa_cons (pe_cmpR op_ge (pv 2) (pe_op op_pow pe_int pe_int) (nomark _)) pa_nil))) (pa_cons (pv 3) pa_nil)))))), ?_⟩
    refine ⟨_, rfl, _, rfl, _, rfl, _, rfl, _, _, rfl, rfl, _, rfl, a, _, rfl, hS, fun l hl1 => ?_⟩
    obtain ⟨ms, em, lm⟩ := cut_map ns (some (k : Int)) (some ((k : Int) + 1))
    rw [em]
    refine ⟨by show 1 ≤ sizeLine; decide, fun z hz => ?_⟩
    have s1 : Same H (upd H l (.lst (ms.map V.int))) := same_new hl1
    have s2 := same_new (o := .lst [.int 0]) hz
    have nlz : l ≠ z := fun e => by subst e; rw [upd_same] at hz; cases hz
    have g1 : upd (upd H l (.lst (ms.map V.int))) z (.lst [.int 0]) l = some (.lst (ms.map V.int)) := s2 _ _ upd_same
    refine ⟨l, z, _, _, rfl, rfl, g1, upd_same, ?_, fun m hm => ?_⟩
    · rw [List.length_map]; show ms.length + 1 ≤ sizeLine; exact Nat.le_of_lt (small1000 (by omega))
    have s3 := same_new (o := .lst (ms.map V.int ++ [.int 0])) hm
    obtain ⟨c, ec⟩ : ∃ c : Int, atI (ms.map V.int ++ [V.int 0]) 0 = some (.int c) := by
      cases ms with
      | nil => exact ⟨0, rfl⟩
      | cons x r => exact ⟨x, atI_nat (j := 0) rfl⟩
    refine ⟨m, _, 0, _, rfl, rfl, SqL.of upd_same, ec, ?_⟩
    have s123 := s1.trans (s2.trans s3)
    refine ⟨_, rfl, _, _, rfl, rfl, (by show (0 : Int) < 2147483629; decide), _, rfl, _, _, rfl, rfl, .inl ⟨by decide, by decide⟩, _, _, rfl, rfl, _, _, rfl, rfl, _, _, rfl, rfl, .inr ⟨by decide, by decide⟩, _, _, rfl, rfl, (by show (0 : Int) < 2147483647; decide), ?_⟩
    have c0 : ∀ x : Int, 0 ≤ x % 2147483647 := fun x => Int.emod_nonneg _ (by omega)
    have c1 : ∀ x : Int, x % 2147483647 < 2147483647 := fun x => Int.emod_lt_of_pos _ (by omega)
    refine ⟨_, rfl, _, rfl, _, _, rfl, rfl, ⟨by decide, by decide, by decide⟩, _, _, rfl, rfl, .inr ⟨_, rfl, _, _, rfl, rfl, .inr ?_, ?_⟩⟩
    · split <;> exact ⟨by decide, by decide⟩
    · refine ⟨_, rfl, by show 2 ≤ sizeLine; decide, fun t ht => ?_⟩
      exact q t _ (s123.trans (same_new ht)) ⟨_, _, upd_same, c0 _, c1 _⟩ (s123.free ht)
end
end W4

namespace W4
open PySem PySem.Spec PyProof.Rows L2 Wn
abbrev st_law : Stmt := topS 80
abbrev stm (i : Nat) : Stmt := (defBody st_law).getD i (.Pass ⟨0, 0, 0, 0⟩)
def loopB : Stmt → List Stmt
  | .For (body := b) .. => b
  | _ => []
abbrev stl (i : Nat) : Stmt := (loopB (stm 1)).getD i (.Pass ⟨0, 0, 0, 0⟩)
theorem sc_law : FnScope ["_law_script", "_law_some", "_law_k", "_law_pool_here", "_law_one", "_law_other", "_law_at", "_law_error", "_law_number_now", "_law_under_here"] ["_law_script"] (defScope st_law) := ⟨rfl, rfl, rfl, by decide +kernel, rfl, by decide +kernel, by decide +kernel⟩
abbrev c_law_fields_right (P : Program) (w : World) (K : PySem.W.Frag) (mg : Str → Option Value) (base : Heap) := CalG P w K mg base "_law_fields_right" st__law_fields_right 4 ["_law_one", "_law_other"] 2 fn__law_fields_right
abbrev c_law_kinds (P : Program) (w : World) (K : PySem.W.Frag) (mg : Str → Option Value) (base : Heap) := Cal P w K mg base "_law_kinds" st__law_kinds 1 ["_law_error"] 1 fn__law_kinds
abbrev c_law_made (P : Program) (w : World) (K : PySem.W.Frag) (mg : Str → Option Value) (base : Heap) := CalG P w K mg base "_law_made" st__law_made 3 ["_law_one"] 1 fn__law_made
abbrev c_law_refused (P : Program) (w : World) (K : PySem.W.Frag) (mg : Str → Option Value) (base : Heap) := CalG P w K mg base "_law_refused" st__law_refused 5 ["_law_odd_one"] 1 gRef
abbrev c_law_under (P : Program) (w : World) (K : PySem.W.Frag) (mg : Str → Option Value) (base : Heap) := Cal P w K mg base "_law_under" st__law_under 1 ["_law_error"] 1 fn__law_under
section
variable {P : Program} {w : World} {K : PySem.W.Frag} {mg : Str → Option Value} {base : Heap} {f : Addr} {cdv : Value} {A : Around} {outer : List Env} {s : Shared} {H : Hp} {E : XK}
def gS0 : En → Option Out := fun δ => ((disp .list (fun δ => ((fun _ => some .none) δ).bind fun x => ((fun δ => ((fun _ => some (.int 5)) δ).bind fun x => ((fun δ => ((fun _ => some (.str "a")) δ).bind fun x => ((fun δ => ((disp .tuple (fun δ => ((fun _ => some (.int 1)) δ).bind fun x => ((fun δ => ((fun _ => some (.int 2)) δ).bind fun x => ((fun _ => some []) δ).bind fun r => some (x :: r)) δ).bind fun r => some (x :: r))) δ).bind fun x => ((fun δ => ((disp .list (fun δ => ((fun _ => some (.int 3)) δ).bind fun x => ((fun _ => some []) δ).bind fun r => some (x :: r))) δ).bind fun x => ((fun δ => ((fun δ => ((fun _ => some (.int 1)) δ).bind fun d => (flatD d).bind fun _ => some (.dict [(.str "a", d)])) δ).bind fun x => ((fun δ => ((fun _ => some (.bool true)) δ).bind fun x => ((fun δ => ((fun δ => ((fun δ => ((fun _ => some (.int 10)) δ).bind fun x => ((fun _ => some (.int 20)) δ).bind fun y => (onI fun i j => if i = 10 ∧ 0 ≤ j ∧ j ≤ 1000 then some (.int (i ^ j.toNat)) else none) x y) δ).bind negD) δ).bind fun x => ((fun _ => some []) δ).bind fun r => some (x :: r)) δ).bind fun r => some (x :: r)) δ).bind fun r => some (x :: r)) δ).bind fun r => some (x :: r)) δ).bind fun r => some (x :: r)) δ).bind fun r => some (x :: r)) δ).bind fun r => some (x :: r)) δ).bind fun r => some (x :: r))) δ).bind fun d => some (.nx (δ.set 1 (some d)))
theorem pS0 (T : Fx K mg) (C__law_fields_right : c_law_fields_right P w K mg base) (C__law_kinds : c_law_kinds P w K mg base) (C__law_made : c_law_made P w K mg base) (C__law_refused : c_law_refused P w K mg base) (C__law_under : c_law_under P w K mg base) (hr : Room 5 (A.deeper (envOfC "law" (defScope st_law) s.heap.objs.size f cdv))) (hG : A.guards = some []) : PS (cxOf CX0 P w K mg base ["_law_script", "_law_some", "_law_k", "_law_pool_here", "_law_one", "_law_other", "_law_at", "_law_error", "_law_number_now", "_law_under_here"] "law" (defScope st_law) f cdv A outer s H E).nox (stm 0) (tS K gS0) := by
  have hu := hr.units
  exact s_set (i := 1) sc_law.nd rfl (Or.inl rfl) (p_lst (l_cons (p_c pe_non fun _ => .non) (l_cons (p_c pe_int fun _ => .int _) (l_cons (p_c pe_str fun _ => .str _) (l_cons (p_tup (l_cons (p_c pe_int fun _ => .int _) (l_cons (p_c pe_int fun _ => .int _) (l_nil)))) (l_cons (p_lst (l_cons (p_c pe_int fun _ => .int _) (l_nil))) (l_cons (p_dict1 (p_c pe_int fun _ => .int _)) (l_cons (p_c pe_bl fun _ => .bl _) (l_cons (p_un u_neg (p_op o_pow (p_c pe_int fun _ => .int _) (p_c pe_int fun _ => .int _))) (l_nil))))))))))
def gS2 : En → Option Out := fun δ => ((fun δ => ((fun δ => ((fun δ => ((fun δ => ((fun δ => ((fun δ => (δ[4]?).join) δ).bind fun x => ((fun δ => ((fun δ => (δ[5]?).join) δ).bind fun x => ((fun _ => some []) δ).bind fun r => some (x :: r)) δ).bind fun r => some (x :: r)) δ).bind fun r => if r.length = 2 then fn__law_fields_right r else none) δ).bind asB) δ).bind fun k => some !k) δ).bind fun k => if k then some true else (fun δ => ((fun δ => ((fun δ => ((fun δ => ((fun δ => (δ[4]?).join) δ).bind fun x => ((fun _ => some []) δ).bind fun r => some (x :: r)) δ).bind fun r => if r.length = 1 then gRef r else none) δ).bind asB) δ).bind fun k => some !k) δ) δ).bind fun k => if k then (seqO (fun δ => ((fun _ => some (.bool false)) δ).bind fun d => some (.rt d)) (fun δ => some (.nx δ))) δ else (fun δ => some (.nx δ)) δ
theorem pS2 (T : Fx K mg) (C__law_fields_right : c_law_fields_right P w K mg base) (C__law_kinds : c_law_kinds P w K mg base) (C__law_made : c_law_made P w K mg base) (C__law_refused : c_law_refused P w K mg base) (C__law_under : c_law_under P w K mg base) (hr : Room 5 (A.deeper (envOfC "law" (defScope st_law) s.heap.objs.size f cdv))) (hG : A.guards = some []) : PS (cxOf CX0 P w K mg base ["_law_script", "_law_some", "_law_k", "_law_pool_here", "_law_one", "_law_other", "_law_at", "_law_error", "_law_number_now", "_law_under_here"] "law" (defScope st_law) f cdv A outer s H E).nox (stl 2) (tS K gS2) := by
  have hu := hr.units
  exact s_if ((q_or (q_not (q_val (c_callG C__law_fields_right hr (by decide) hG (by rfl) (l_cons (p_var (pv 4)) (l_cons (p_var (pv 5)) (l_nil)))))) (pw_or1 (q_not (q_val (c_callG C__law_refused hr (by decide) hG (by rfl) (l_cons (p_var (pv 4)) (l_nil))))))).pt) (s_cons (s_ret (p_c pe_bl fun _ => .bl _)) (s_nil)) (s_nil)
def gS3 : En → Option Out := fun δ => ((fun δ => ((fun δ => ((fun δ => (δ[4]?).join) δ).bind fun x => ((fun _ => some []) δ).bind fun r => some (x :: r)) δ).bind fun r => if r.length = 1 then fn__law_made r else none) δ).bind fun d => match d with | .list ds => loopE 6 7 (seqO (fun δ => ((fun δ => ((fun δ => ((fun δ => ((fun δ => (δ[7]?).join) δ).bind fun x => ((fun _ => some []) δ).bind fun r => some (x :: r)) δ).bind fun r => if r.length = 1 then fn__law_kinds r else none) δ).bind fun x => ((fun δ => ((fun _ => some (.int 21)) δ).bind fun d => (rngEs 8 δ d).bind fun δs => (compO (yesQ) (fun δ => ((fun δ => (δ[8]?).join) δ).bind fun x => ((fun δ => (δ[6]?).join) δ).bind fun y => eqD x y) δs).bind fun ds => some (.list ds)) δ).bind fun y => (neD x y).bind asB) δ).bind fun k => if k then (seqO (fun δ => ((fun _ => some (.bool false)) δ).bind fun d => some (.rt d)) (fun δ => some (.nx δ))) δ else (fun δ => some (.nx δ)) δ) (seqO (fun δ => ((disp .list (fun δ => ((fun δ => ((fun δ => (δ[6]?).join) δ).bind fun x => ((fun _ => some (.int 13)) δ).bind fun y => (onI fun i j => some (.bool (decide (i < j)))) x y) δ).bind fun x => ((fun δ => ((fun δ => ((fun δ => (δ[6]?).join) δ).bind fun x => ((fun _ => some (.int 13)) δ).bind fun y => (onI fun i j => some (.bool (decide (i < j)))) x y) δ).bind fun x => ((fun δ => ((chn (onI fun i j => some (.bool (decide (i ≤ j)))) (onI fun i j => some (.bool (decide (i < j)))) (fun _ => some (.int 13)) (fun δ => (δ[6]?).join) (fun _ => some (.int 16))) δ).bind fun x => ((fun δ => ((chn (onI fun i j => some (.bool (decide (i ≤ j)))) (onI fun i j => some (.bool (decide (i < j)))) (fun _ => some (.int 16)) (fun δ => (δ[6]?).join) (fun _ => some (.int 19))) δ).bind fun x => ((fun δ => ((chn (onI fun i j => some (.bool (decide (i ≤ j)))) (onI fun i j => some (.bool (decide (i < j)))) (fun _ => some (.int 13)) (fun δ => (δ[6]?).join) (fun _ => some (.int 20))) δ).bind fun x => ((fun δ => ((fun δ => ((fun δ => (δ[6]?).join) δ).bind fun x => ((fun _ => some (.int 20)) δ).bind fun y => eqD x y) δ).bind fun x => ((fun _ => some []) δ).bind fun r => some (x :: r)) δ).bind fun r => some (x :: r)) δ).bind fun r => some (x :: r)) δ).bind fun r => some (x :: r)) δ).bind fun r => some (x :: r)) δ).bind fun r => some (x :: r))) δ).bind fun d => some (.nx (δ.set 9 (some d)))) (seqO (fun δ => ((fun δ => ((fun δ => ((fun δ => ((fun δ => (δ[7]?).join) δ).bind fun x => ((fun _ => some []) δ).bind fun r => some (x :: r)) δ).bind fun r => if r.length = 1 then fn__law_under r else none) δ).bind fun x => ((fun δ => (δ[9]?).join) δ).bind fun y => (neD x y).bind asB) δ).bind fun k => if k then (seqO (fun δ => ((fun _ => some (.bool false)) δ).bind fun d => some (.rt d)) (fun δ => some (.nx δ))) δ else (fun δ => some (.nx δ)) δ) (fun δ => some (.nx δ))))) 0 ds δ | _ => none
theorem pS3 (T : Fx K mg) (C__law_fields_right : c_law_fields_right P w K mg base) (C__law_kinds : c_law_kinds P w K mg base) (C__law_made : c_law_made P w K mg base) (C__law_refused : c_law_refused P w K mg base) (C__law_under : c_law_under P w K mg base) (hr : Room 5 (A.deeper (envOfC "law" (defScope st_law) s.heap.objs.size f cdv))) (hG : A.guards = some []) : PS (cxOf CX0 P w K mg base ["_law_script", "_law_some", "_law_k", "_law_pool_here", "_law_one", "_law_other", "_law_at", "_law_error", "_law_number_now", "_law_under_here"] "law" (defScope st_law) f cdv A outer s H E).nox (stl 3) (tS K gS3) := by
  have hu := hr.units
  exact s_forE (i := 6) (j := 7) PassesOwn.never rfl (by rfl) T.z_enumerate (c_callG C__law_made hr (by decide) hG (by rfl) (l_cons (p_var (pv 4)) (l_nil))) (pg_tup rfl (pgs_cons (pg_name (i := 6) sc_law.nd rfl (Or.inr rfl)) (pgs_cons (pg_name (i := 7) sc_law.nd rfl (Or.inl rfl)) pgs_nil))) (s_cons (s_if (q_cmp (o_ne hu) (c_call C__law_kinds hr (by decide) (by rfl) (l_cons (p_var (pv 7)) (l_nil))) (p_lcR (i := 8) rfl sc_law.nd (by rfl) T.z_range (p_c pe_int fun _ => .int _) (blkOk_by (own := [("_law_number_now", 8)]) (N := ["_law_script", "_law_some", "_law_k", "_law_pool_here", "_law_one", "_law_other", "_law_at", "_law_error", "_law_number_now", "_law_under_here"]) (sc := (defScope st_law)) (by decide +kernel)) (fun _ _ _ _ _ => pg_name (i := 8) sc_law.nd rfl (Or.inl rfl)) (fun _ _ _ _ _ => ts_nil) (fun _ _ _ _ _ => p_cmp (o_eq hu) (p_var (pv 8)) (p_var (pv 6)) (nobehind _ (by decide) (by decide)))) (nobehind _ (by decide) (by decide))) (s_cons (s_ret (p_c pe_bl fun _ => .bl _)) (s_nil)) (s_nil)) (s_cons (s_set (i := 9) sc_law.nd rfl (Or.inl rfl) (p_lst (l_cons (p_cmp (o_lt) (p_var (pv 6)) (p_c pe_int fun _ => .int _) (nobehind _ (by decide) (by decide))) (l_cons (p_cmp (o_lt) (p_var (pv 6)) (p_c pe_int fun _ => .int _) (nobehind _ (by decide) (by decide))) (l_cons (p_chain (o_le) (o_lt) (p_c pe_int fun _ => .int _) (p_var (pv 6)) (p_c pe_int fun _ => .int _)) (l_cons (p_chain (o_le) (o_lt) (p_c pe_int fun _ => .int _) (p_var (pv 6)) (p_c pe_int fun _ => .int _)) (l_cons (p_chain (o_le) (o_lt) (p_c pe_int fun _ => .int _) (p_var (pv 6)) (p_c pe_int fun _ => .int _)) (l_cons (p_cmp (o_eq hu) (p_var (pv 6)) (p_c pe_int fun _ => .int _) (nobehind _ (by decide) (by decide))) (l_nil))))))))) (s_cons (s_if (q_cmp (o_ne hu) (c_call C__law_under hr (by decide) (by rfl) (l_cons (p_var (pv 7)) (l_nil))) (p_var (pv 9)) (nobehind _ (by decide) (by decide))) (s_cons (s_ret (p_c pe_bl fun _ => .bl _)) (s_nil)) (s_nil)) (s_nil))))
end
def some8 : List D := [.none, .int 5, .str "a", .tuple [.int 1, .int 2], .list [.int 3], .dict [(.str "a", .int 1)], .bool true, .int (-100000000000000000000)]
def δ0 : En := List.replicate 10 none
def δ1 : En := δ0.set 1 (some (.list some8))
def δS (a b : D) : En := (δ1.set 4 (some a)).set 5 (some b)
def δF (a : D) : En := δ1.set 4 (some a)
def δE (a : D) : En := (((δF a).set 6 (some (.int 20))).set 7 (some (.dict [(.none, .str "TooMany"), (.str "many", a)]))).set 9 (some (.list [.bool false, .bool false, .bool false, .bool false, .bool false, .bool true]))
theorem e0 : gS0 δ0 = some (.nx δ1) := by kernel_rfl
theorem eF0 : gS3 (δF (.none)) = some (.nx (δE (.none))) := by kernel_rfl
theorem eF1 : gS3 (δF (.int 5)) = some (.nx (δE (.int 5))) := by kernel_rfl
theorem eF2 : gS3 (δF (.str "a")) = some (.nx (δE (.str "a"))) := by kernel_rfl
theorem eF3 : gS3 (δF (.tuple [.int 1, .int 2])) = some (.nx (δE (.tuple [.int 1, .int 2]))) := by kernel_rfl
theorem eF4 : gS3 (δF (.list [.int 3])) = some (.nx (δE (.list [.int 3]))) := by kernel_rfl
theorem eF5 : gS3 (δF (.dict [(.str "a", .int 1)])) = some (.nx (δE (.dict [(.str "a", .int 1)]))) := by kernel_rfl
theorem eF6 : gS3 (δF (.bool true)) = some (.nx (δE (.bool true))) := by kernel_rfl
theorem eF7 : gS3 (δF (.int (-100000000000000000000))) = some (.nx (δE (.int (-100000000000000000000)))) := by kernel_rfl
end W4

namespace Wn
open PySem PySem.Spec PyProof.Rows L2
/-! ### the end of a law whose def shows things; the modules' dict is tracked beside the script -/
/-- all that is tracked is shut -/
def Shut (H : Hp) : Prop := ∀ b, H b = none ∨ ∃ ob u, H b = some (.frz ob u)
theorem end_core {P : Program} {w : World} {K : PySem.W.Frag} {mg mb : Str → Option Value} {k : Nat} {fa a : Addr} {fd : FuncData} {x : Str} {sp : Sp} {s : Shared} {vs : List Value} (KX : K.In s.heap) (gl : s.heap.Ns mainGlobals mg) (bl : s.heap.Ns builtinsNs mb)
    (bb : ∀ y : Str, y ≠ "__name__" → mb y = bootBuiltins y) (lim : s.heap.NoLimit) (gg : s.gens = #[]) (ha : s.heap.get? a = some { cls := .type "list", data := .seq vs.toArray }) (hr : Room k callerA)
    (F : ∀ base : Heap, K.In base → base.Ns mainGlobals mg → FnG P w K mg base k fa fd [x] sp) (bd : ∀ (s : Shared) (u : Value), BindsTo s fd ⟨[u], []⟩ [(x, u)])
    (H : Hp) (only : Shut H) (want : sp [.ref a] H (fun v _ => v = .bl true) fun _ _ _ => False) (ok : HOk P w H s.heap) (alone : ∀ b, H b ≠ none → b = a ∨ b = sysModules) (apart : ∀ b, H b ≠ none → K.lookup b = none) :
    codeAny (model P w) callerA (.call (.ref fa) ⟨[.ref a], []⟩) (fun r s' => r = .ok (.ret (.bool true)) ∧ OldK s.heap s'.heap ∧ s'.os = s.os ∧ AllBare s'.gens) s := by
  have free : ∀ {b : Addr} {o : Obj} {es : Array DictEntry} {ep : Nat}, b ≠ sysModules → s.heap.get? b = some o → o.data = .dict es ep → H b = none := fun {b o es ep} nb e d => by
    cases q : H b with
    | none => rfl
    | some u =>
      have z : b = a := (alone b (by rw [q]; intro t; cases t)).resolve_right nb
      rw [z, ha] at e
      cases e
      cases (show Data.seq vs.toArray _ = Data.dict es ep from d)
  have ns : ∀ {b : Addr} {m : Str → Option Value}, b ≠ sysModules → s.heap.Ns b m → (hidT s.heap H).Ns b m := fun {b m} nb h => by
    obtain ⟨o, es, ep, e, d, r⟩ := h
    exact ⟨o, es, ep, hidT_get e (free nb e d), d, r⟩
  have kb : K.In (hidT s.heap H) := fun b o e => by
    refine hidT_get (KX b o e) ?_
    cases q : H b with
    | none => rfl
    | some u =>
      rw [apart b (by rw [q]; intro t; cases t)] at e
      cases e
  have md : Mod K mg (hidT s.heap H) := ⟨kb, ns (by decide) gl, ⟨mb, ns (by decide) bl, bb⟩, by
    obtain ⟨mc, h1, h2⟩ := lim
    exact ⟨mc, ns (by decide) h1, h2⟩⟩
  have env : Env0 P w K mg (hidT s.heap H) callerA [] s H := ⟨rfl, md, fun b o e => of_hidT e, Nat.le_of_eq (hidT_size _ _), trivial, fun b hb => absurd (show b ∈ ([] : List Addr) from hb) (by simp), ok, .of_eq gg⟩
  refine codeAny_mono ((F _ kb (ns (by decide) gl)).go callerA [] s H ⟨[.ref a], []⟩ [.ref a] [.ref a] _ _ hr rfl env (bd s (.ref a)) (.cons rfl .nil) want) fun r s' h => ?_
  match r, h with
  | .ok (.ret u), h =>
    obtain ⟨v, H', os, bare, un, ok', rv, q⟩ := h
    have q : v = .bl true := q
    subst q
    cases (show u = Value.bool true from rv)
    refine ⟨rfl, .of_keep fun b o e => ?_, os, bare⟩
    rcases only b with z | ⟨ob, xs, z⟩
    · exact un.keep b o e z (fun t => absurd (show b ∈ ([] : List Addr) from t) (by simp)) (by simp)
    · obtain ⟨e1, _⟩ := ok b _ z
      obtain ⟨e2, _⟩ := ok' b _ (un.frzs b ob _ z)
      rw [e] at e1
      cases e1
      exact e2
/-- the law's def at fa: how it binds, and its promise over every base -/
def LawAt (P : Program) (w : World) (K : PySem.W.Frag) (mg : Str → Option Value) (k : Nat) (fa : Addr) (x : Str) (sp : Sp) : Prop :=
  ∃ fd : FuncData, (∀ (s : Shared) (u : Value), BindsTo s fd ⟨[u], []⟩ [(x, u)]) ∧ ∀ base : Heap, K.In base → base.Ns mainGlobals mg → FnG P w K mg base k fa fd [x] sp
/-- what the promise is asked for: True, of every script -/
def Asked (K : PySem.W.Frag) (n : Nat) (sp : Sp) : Prop := ∀ (H : Hp) (a : Addr) (ns : List Int), ns.length ≤ n → Sy H → SqL K H a (ns.map V.int) → sp [.ref a] H (fun v _ => v = .bl true) fun _ _ _ => False
theorem walk_G {l : PySem.W.OpenLaw} {n k : Nat} {q : Program} {loose : List Str} {XP : (Str → Option Value) → Heap → Prop} {YP : World → Heap → Prop} {d : DefRec} {KK : Params → PySem.W.Frag} {sp : World → Sp} {x : Str}
    (most : l.most = some n) (fits : n ≤ sizeLine) (plain : d.params.defaults = []) (room : Room k callerA) (imp : importsNone q = true) (written : ∀ (w : World) (h : Heap), YP w h → (KK w.params).In h) (noM : ∀ p : Params, (KK p).lookup sysModules = none)
    (at_ : ∀ (w : World) (mg : Str → Option Value) (fa : Addr) (h : Heap), (KK w.params).In h → h.Ns mainGlobals mg → mg d.name = some (.ref fa) → LawAt l.prog w (KK w.params) mg k fa x (sp w))
    (asked : ∀ w : World, Asked (KK w.params) n (sp w)) : PySem.W.WalkO q loose XP YP l.row.toRowW d [] (fun g us => PySem.call g us) := by
  refine Att.attach_call most plain fun w _ s₁ mg mb fa _ _ _ _ a vs ns G Y _ _ _ named hobj hints hlen hg => ?_
  have KX := written w _ Y
  obtain ⟨fd, hb, hF⟩ := at_ w mg fa _ KX G.T.g named
  have rv := vals_ints hints
  have lenV := hints.length
  have small : ns.length ≤ sizeLine := Nat.le_trans hlen fits
  have core := fun H => end_core (a := a) KX G.T.g G.T.b G.T.builtins G.T.nolimit hg hobj room hF hb H
  obtain ⟨mm, ⟨om, es, ep, hom, hdm, _⟩, _⟩ := (G.T.seer imp).mods
  have am : a ≠ sysModules := fun z => by
    rw [← z, hobj] at hom
    cases hom
    cases (show Data.seq vs.toArray _ = Data.dict es ep from hdm)
  have mo : ∀ H : Hp, ObjOk l.prog w H s₁.heap sysModules (.frz om (.ext fun h => h.get? sysModules = some om)) := fun H => ⟨hom, hom, ⟨om, hom⟩, fun h1 h2 p k => k om p⟩
  cases hk : (KK w.params).lookup a with
  | some ob =>
    have e := KX a ob hk
    rw [hobj] at e
    cases e
    have sq : ∀ H : Hp, SqL (KK w.params) H a (ns.map V.int) := fun H => .inr ⟨_, vs.toArray, _, hk, rfl, rfl, rfl, by rw [List.size_toArray, lenV]; exact small, by simpa using rv⟩
    refine core (fun b => if b = sysModules then some (.frz om (.ext fun h => h.get? sysModules = some om)) else none) (fun b => ?_) (asked w _ a ns hlen ⟨_, _, if_pos rfl⟩ (sq _)) (fun b u z => ?_) (fun b z => ?_) fun b z => ?_
    · by_cases t : b = sysModules
      · exact .inr ⟨_, _, if_pos t⟩
      · exact .inl (if_neg t)
    · by_cases t : b = sysModules
      · subst t
        have z := (if_pos rfl).symm.trans z
        cases z
        exact mo _
      · have z := (if_neg t).symm.trans z
        cases z
    · by_cases t : b = sysModules
      · exact .inr t
      · exact absurd (if_neg t) z
    · by_cases t : b = sysModules
      · rw [t]; exact noM _
      · exact absurd (if_neg t) z
  | none =>
    refine core (fun b => if b = a then some (.frz { cls := .type "list", data := .seq vs.toArray } (.lst (ns.map V.int))) else if b = sysModules then some (.frz om (.ext fun h => h.get? sysModules = some om)) else none) (fun b => ?_)
      (asked w _ a ns hlen ⟨om, _, (if_neg am.symm).trans (if_pos rfl)⟩ (.inl (.inr ⟨_, if_pos rfl⟩))) (fun b u z => ?_) (fun b z => ?_) fun b z => ?_
    · by_cases t : b = a
      · exact .inr ⟨_, _, if_pos t⟩
      · by_cases t2 : b = sysModules
        · exact .inr ⟨_, _, (if_neg t).trans (if_pos t2)⟩
        · exact .inl ((if_neg t).trans (if_neg t2))
    · by_cases t : b = a
      · subst t
        have z := (if_pos rfl).symm.trans z
        cases z
        exact ⟨hobj, by rw [List.length_map]; exact small, vs, _, rv, hobj⟩
      · have z := (if_neg t).symm.trans z
        by_cases t2 : b = sysModules
        · subst t2
          have z := (if_pos rfl).symm.trans z
          cases z
          exact mo _
        · have z := (if_neg t2).symm.trans z
          cases z
    · by_cases t : b = a
      · exact .inl t
      · by_cases t2 : b = sysModules
        · exact .inr t2
        · exact absurd ((if_neg t).trans (if_neg t2)) z
    · by_cases t : b = a
      · rw [t]; exact hk
      · by_cases t2 : b = sysModules
        · rw [t2]; exact noM _
        · exact absurd ((if_neg t).trans (if_neg t2)) z
/-- a called def: its promise, where it stands -/
structure Kn (P : Program) (w : World) (K : PySem.W.Frag) (mg : Str → Option Value) (base : Heap) (x : Str) (k : Nat) (ps : List Str) (sp : Sp) : Prop where
  ex : ∃ f fd, FnOk P w K mg base CX0 k f fd ps sp ∧ mg x = some (.ref f) ∧ PySem.W.keepIn K (.ref f) = true ∧ Binds K fd ps []
/-- a def by what the top has left of it -/
theorem dfn_mk {K : PySem.W.Frag} {h : Heap} {mg : Str → Option Value} {x : Str} {st : Stmt} {ps : List Str} {f : Addr} {od an : Option Addr} {sl : Array (Option Value)} {oc kV dc pm cd ct : Value} (X : K.In h) (G : h.Ns mainGlobals mg)
    (a : PySem.W.nsIn K mainGlobals x = some (some (.ref f))) (l : K.lookup f = some ⟨oc, od, .func (PySem.W.fnOf x x (defArgs st) (defBody st) (defScope st) .none kV dc pm an cd ct), sl⟩) (c : PySem.W.codeIn K cd x = true) (k : PySem.W.keepIn K (.ref f) = true)
    (b : ∀ (kV doc pm : Value) (an : Option Addr) (cdv ct : Value) (us : List Value), us.length = ps.length → bindArgs (PySem.W.fnOf x x (defArgs st) (defBody st) (defScope st) .none kV doc pm an cdv ct) ⟨us, []⟩ = pure (ps.zip us)) : Dfn K mg x st ps := by
  have F := fun_mk (st := st) l c k
  exact ⟨f, _, F, PySem.W.mg_of X G a, F.binds b⟩
section
variable {K : PySem.W.Frag} {H : Hp} {σ : L2.St} {δ : En}
theorem er0 {n : Nat} (sy : Sy H) (h : σ.length = n) : Er K H σ (List.replicate n none) := ⟨by rw [h, List.length_replicate], fun i d e => by
  rw [List.getElem?_replicate] at e
  split at e <;> (cases e), sy⟩
theorem er_one {i : Nat} {v : V} {d : D} (h : Er K H σ δ) (e : σ[i]? = some (some v)) (q : Dt K H v d) : Er K H σ (δ.set i (some d)) := by
  have q2 := h.set i q
  have : σ.set i (some v) = σ := by
    apply List.ext_getElem?
    intro j
    by_cases hj : j = i
    · subst hj
      rw [e, List.getElem?_set_self (List.getElem?_eq_some_iff.mp e).1]
    · rw [List.getElem?_set_ne (Ne.symm hj)]
  rw [this] at q2
  exact q2
theorem Er.drop (h : Er K H σ δ) (i : Nat) : Er K H σ (δ.set i none) := by
  refine ⟨by simpa using h.len, fun j d e => ?_, h.sy⟩
  by_cases hj : j = i
  · subst hj
    by_cases hl : j < δ.length
    · rw [List.getElem?_set_self hl] at e; cases e
    · rw [List.getElem?_eq_none (by simpa using hl)] at e; cases e
  · rw [List.getElem?_set_ne (Ne.symm hj)] at e
    exact h.val j d e
theorem Dt.list {v : V} {ds : List D} (h : Dt K H v (.list ds)) : ∃ a vs, v = .ref a ∧ H a = some (.lst vs) ∧ DtAll K H vs ds := by
  cases h with
  | lst s a => exact ⟨_, _, rfl, s, a⟩
end
end Wn

namespace W4
open PySem PySem.Spec PyProof.Rows L2 Wn
theorem eS00 : gS2 (δS (.none) (.none)) = some (.nx (δS (.none) (.none))) := by kernel_rfl
theorem eS01 : gS2 (δS (.none) (.int 5)) = some (.nx (δS (.none) (.int 5))) := by kernel_rfl
theorem eS02 : gS2 (δS (.none) (.str "a")) = some (.nx (δS (.none) (.str "a"))) := by kernel_rfl
theorem eS03 : gS2 (δS (.none) (.tuple [.int 1, .int 2])) = some (.nx (δS (.none) (.tuple [.int 1, .int 2]))) := by kernel_rfl
theorem eS04 : gS2 (δS (.none) (.list [.int 3])) = some (.nx (δS (.none) (.list [.int 3]))) := by kernel_rfl
theorem eS05 : gS2 (δS (.none) (.dict [(.str "a", .int 1)])) = some (.nx (δS (.none) (.dict [(.str "a", .int 1)]))) := by kernel_rfl
theorem eS06 : gS2 (δS (.none) (.bool true)) = some (.nx (δS (.none) (.bool true))) := by kernel_rfl
theorem eS07 : gS2 (δS (.none) (.int (-100000000000000000000))) = some (.nx (δS (.none) (.int (-100000000000000000000)))) := by kernel_rfl
theorem eS10 : gS2 (δS (.int 5) (.none)) = some (.nx (δS (.int 5) (.none))) := by kernel_rfl
theorem eS11 : gS2 (δS (.int 5) (.int 5)) = some (.nx (δS (.int 5) (.int 5))) := by kernel_rfl
theorem eS12 : gS2 (δS (.int 5) (.str "a")) = some (.nx (δS (.int 5) (.str "a"))) := by kernel_rfl
theorem eS13 : gS2 (δS (.int 5) (.tuple [.int 1, .int 2])) = some (.nx (δS (.int 5) (.tuple [.int 1, .int 2]))) := by kernel_rfl
theorem eS14 : gS2 (δS (.int 5) (.list [.int 3])) = some (.nx (δS (.int 5) (.list [.int 3]))) := by kernel_rfl
theorem eS15 : gS2 (δS (.int 5) (.dict [(.str "a", .int 1)])) = some (.nx (δS (.int 5) (.dict [(.str "a", .int 1)]))) := by kernel_rfl
theorem eS16 : gS2 (δS (.int 5) (.bool true)) = some (.nx (δS (.int 5) (.bool true))) := by kernel_rfl
theorem eS17 : gS2 (δS (.int 5) (.int (-100000000000000000000))) = some (.nx (δS (.int 5) (.int (-100000000000000000000)))) := by kernel_rfl
theorem eS20 : gS2 (δS (.str "a") (.none)) = some (.nx (δS (.str "a") (.none))) := by kernel_rfl
theorem eS21 : gS2 (δS (.str "a") (.int 5)) = some (.nx (δS (.str "a") (.int 5))) := by kernel_rfl
theorem eS22 : gS2 (δS (.str "a") (.str "a")) = some (.nx (δS (.str "a") (.str "a"))) := by kernel_rfl
theorem eS23 : gS2 (δS (.str "a") (.tuple [.int 1, .int 2])) = some (.nx (δS (.str "a") (.tuple [.int 1, .int 2]))) := by kernel_rfl
theorem eS24 : gS2 (δS (.str "a") (.list [.int 3])) = some (.nx (δS (.str "a") (.list [.int 3]))) := by kernel_rfl
theorem eS25 : gS2 (δS (.str "a") (.dict [(.str "a", .int 1)])) = some (.nx (δS (.str "a") (.dict [(.str "a", .int 1)]))) := by kernel_rfl
theorem eS26 : gS2 (δS (.str "a") (.bool true)) = some (.nx (δS (.str "a") (.bool true))) := by kernel_rfl
theorem eS27 : gS2 (δS (.str "a") (.int (-100000000000000000000))) = some (.nx (δS (.str "a") (.int (-100000000000000000000)))) := by kernel_rfl
theorem eS30 : gS2 (δS (.tuple [.int 1, .int 2]) (.none)) = some (.nx (δS (.tuple [.int 1, .int 2]) (.none))) := by kernel_rfl
theorem eS31 : gS2 (δS (.tuple [.int 1, .int 2]) (.int 5)) = some (.nx (δS (.tuple [.int 1, .int 2]) (.int 5))) := by kernel_rfl
theorem eS32 : gS2 (δS (.tuple [.int 1, .int 2]) (.str "a")) = some (.nx (δS (.tuple [.int 1, .int 2]) (.str "a"))) := by kernel_rfl
theorem eS33 : gS2 (δS (.tuple [.int 1, .int 2]) (.tuple [.int 1, .int 2])) = some (.nx (δS (.tuple [.int 1, .int 2]) (.tuple [.int 1, .int 2]))) := by kernel_rfl
theorem eS34 : gS2 (δS (.tuple [.int 1, .int 2]) (.list [.int 3])) = some (.nx (δS (.tuple [.int 1, .int 2]) (.list [.int 3]))) := by kernel_rfl
theorem eS35 : gS2 (δS (.tuple [.int 1, .int 2]) (.dict [(.str "a", .int 1)])) = some (.nx (δS (.tuple [.int 1, .int 2]) (.dict [(.str "a", .int 1)]))) := by kernel_rfl
theorem eS36 : gS2 (δS (.tuple [.int 1, .int 2]) (.bool true)) = some (.nx (δS (.tuple [.int 1, .int 2]) (.bool true))) := by kernel_rfl
theorem eS37 : gS2 (δS (.tuple [.int 1, .int 2]) (.int (-100000000000000000000))) = some (.nx (δS (.tuple [.int 1, .int 2]) (.int (-100000000000000000000)))) := by kernel_rfl
theorem eS40 : gS2 (δS (.list [.int 3]) (.none)) = some (.nx (δS (.list [.int 3]) (.none))) := by kernel_rfl
theorem eS41 : gS2 (δS (.list [.int 3]) (.int 5)) = some (.nx (δS (.list [.int 3]) (.int 5))) := by kernel_rfl
theorem eS42 : gS2 (δS (.list [.int 3]) (.str "a")) = some (.nx (δS (.list [.int 3]) (.str "a"))) := by kernel_rfl
theorem eS43 : gS2 (δS (.list [.int 3]) (.tuple [.int 1, .int 2])) = some (.nx (δS (.list [.int 3]) (.tuple [.int 1, .int 2]))) := by kernel_rfl
theorem eS44 : gS2 (δS (.list [.int 3]) (.list [.int 3])) = some (.nx (δS (.list [.int 3]) (.list [.int 3]))) := by kernel_rfl
theorem eS45 : gS2 (δS (.list [.int 3]) (.dict [(.str "a", .int 1)])) = some (.nx (δS (.list [.int 3]) (.dict [(.str "a", .int 1)]))) := by kernel_rfl
theorem eS46 : gS2 (δS (.list [.int 3]) (.bool true)) = some (.nx (δS (.list [.int 3]) (.bool true))) := by kernel_rfl
theorem eS47 : gS2 (δS (.list [.int 3]) (.int (-100000000000000000000))) = some (.nx (δS (.list [.int 3]) (.int (-100000000000000000000)))) := by kernel_rfl
theorem eS50 : gS2 (δS (.dict [(.str "a", .int 1)]) (.none)) = some (.nx (δS (.dict [(.str "a", .int 1)]) (.none))) := by kernel_rfl
theorem eS51 : gS2 (δS (.dict [(.str "a", .int 1)]) (.int 5)) = some (.nx (δS (.dict [(.str "a", .int 1)]) (.int 5))) := by kernel_rfl
theorem eS52 : gS2 (δS (.dict [(.str "a", .int 1)]) (.str "a")) = some (.nx (δS (.dict [(.str "a", .int 1)]) (.str "a"))) := by kernel_rfl
theorem eS53 : gS2 (δS (.dict [(.str "a", .int 1)]) (.tuple [.int 1, .int 2])) = some (.nx (δS (.dict [(.str "a", .int 1)]) (.tuple [.int 1, .int 2]))) := by kernel_rfl
theorem eS54 : gS2 (δS (.dict [(.str "a", .int 1)]) (.list [.int 3])) = some (.nx (δS (.dict [(.str "a", .int 1)]) (.list [.int 3]))) := by kernel_rfl
theorem eS55 : gS2 (δS (.dict [(.str "a", .int 1)]) (.dict [(.str "a", .int 1)])) = some (.nx (δS (.dict [(.str "a", .int 1)]) (.dict [(.str "a", .int 1)]))) := by kernel_rfl
theorem eS56 : gS2 (δS (.dict [(.str "a", .int 1)]) (.bool true)) = some (.nx (δS (.dict [(.str "a", .int 1)]) (.bool true))) := by kernel_rfl
theorem eS57 : gS2 (δS (.dict [(.str "a", .int 1)]) (.int (-100000000000000000000))) = some (.nx (δS (.dict [(.str "a", .int 1)]) (.int (-100000000000000000000)))) := by kernel_rfl
theorem eS60 : gS2 (δS (.bool true) (.none)) = some (.nx (δS (.bool true) (.none))) := by kernel_rfl
theorem eS61 : gS2 (δS (.bool true) (.int 5)) = some (.nx (δS (.bool true) (.int 5))) := by kernel_rfl
theorem eS62 : gS2 (δS (.bool true) (.str "a")) = some (.nx (δS (.bool true) (.str "a"))) := by kernel_rfl
theorem eS63 : gS2 (δS (.bool true) (.tuple [.int 1, .int 2])) = some (.nx (δS (.bool true) (.tuple [.int 1, .int 2]))) := by kernel_rfl
theorem eS64 : gS2 (δS (.bool true) (.list [.int 3])) = some (.nx (δS (.bool true) (.list [.int 3]))) := by kernel_rfl
theorem eS65 : gS2 (δS (.bool true) (.dict [(.str "a", .int 1)])) = some (.nx (δS (.bool true) (.dict [(.str "a", .int 1)]))) := by kernel_rfl
theorem eS66 : gS2 (δS (.bool true) (.bool true)) = some (.nx (δS (.bool true) (.bool true))) := by kernel_rfl
theorem eS67 : gS2 (δS (.bool true) (.int (-100000000000000000000))) = some (.nx (δS (.bool true) (.int (-100000000000000000000)))) := by kernel_rfl
theorem eS70 : gS2 (δS (.int (-100000000000000000000)) (.none)) = some (.nx (δS (.int (-100000000000000000000)) (.none))) := by kernel_rfl
theorem eS71 : gS2 (δS (.int (-100000000000000000000)) (.int 5)) = some (.nx (δS (.int (-100000000000000000000)) (.int 5))) := by kernel_rfl
theorem eS72 : gS2 (δS (.int (-100000000000000000000)) (.str "a")) = some (.nx (δS (.int (-100000000000000000000)) (.str "a"))) := by kernel_rfl
theorem eS73 : gS2 (δS (.int (-100000000000000000000)) (.tuple [.int 1, .int 2])) = some (.nx (δS (.int (-100000000000000000000)) (.tuple [.int 1, .int 2]))) := by kernel_rfl
theorem eS74 : gS2 (δS (.int (-100000000000000000000)) (.list [.int 3])) = some (.nx (δS (.int (-100000000000000000000)) (.list [.int 3]))) := by kernel_rfl
theorem eS75 : gS2 (δS (.int (-100000000000000000000)) (.dict [(.str "a", .int 1)])) = some (.nx (δS (.int (-100000000000000000000)) (.dict [(.str "a", .int 1)]))) := by kernel_rfl
theorem eS76 : gS2 (δS (.int (-100000000000000000000)) (.bool true)) = some (.nx (δS (.int (-100000000000000000000)) (.bool true))) := by kernel_rfl
theorem eS77 : gS2 (δS (.int (-100000000000000000000)) (.int (-100000000000000000000))) = some (.nx (δS (.int (-100000000000000000000)) (.int (-100000000000000000000)))) := by kernel_rfl
theorem eF : ∀ a ∈ some8, gS3 (δF a) = some (.nx (δE a)) := by
  intro a ha
  simp only [some8, List.mem_cons, List.not_mem_nil, or_false] at ha
  rcases ha with rfl | rfl | rfl | rfl | rfl | rfl | rfl | rfl
  · exact eF0
  · exact eF1
  · exact eF2
  · exact eF3
  · exact eF4
  · exact eF5
  · exact eF6
  · exact eF7
theorem eT0 : ∀ b ∈ some8, gS2 (δS (.none) b) = some (.nx (δS (.none) b)) := by
  intro a ha
  simp only [some8, List.mem_cons, List.not_mem_nil, or_false] at ha
  rcases ha with rfl | rfl | rfl | rfl | rfl | rfl | rfl | rfl
  · exact eS00
  · exact eS01
  · exact eS02
  · exact eS03
  · exact eS04
  · exact eS05
  · exact eS06
  · exact eS07
theorem eT1 : ∀ b ∈ some8, gS2 (δS (.int 5) b) = some (.nx (δS (.int 5) b)) := by
  intro a ha
  simp only [some8, List.mem_cons, List.not_mem_nil, or_false] at ha
  rcases ha with rfl | rfl | rfl | rfl | rfl | rfl | rfl | rfl
  · exact eS10
  · exact eS11
  · exact eS12
  · exact eS13
  · exact eS14
  · exact eS15
  · exact eS16
  · exact eS17
theorem eT2 : ∀ b ∈ some8, gS2 (δS (.str "a") b) = some (.nx (δS (.str "a") b)) := by
  intro a ha
  simp only [some8, List.mem_cons, List.not_mem_nil, or_false] at ha
  rcases ha with rfl | rfl | rfl | rfl | rfl | rfl | rfl | rfl
  · exact eS20
  · exact eS21
  · exact eS22
  · exact eS23
  · exact eS24
  · exact eS25
  · exact eS26
  · exact eS27
theorem eT3 : ∀ b ∈ some8, gS2 (δS (.tuple [.int 1, .int 2]) b) = some (.nx (δS (.tuple [.int 1, .int 2]) b)) := by
  intro a ha
  simp only [some8, List.mem_cons, List.not_mem_nil, or_false] at ha
  rcases ha with rfl | rfl | rfl | rfl | rfl | rfl | rfl | rfl
  · exact eS30
  · exact eS31
  · exact eS32
  · exact eS33
  · exact eS34
  · exact eS35
  · exact eS36
  · exact eS37
theorem eT4 : ∀ b ∈ some8, gS2 (δS (.list [.int 3]) b) = some (.nx (δS (.list [.int 3]) b)) := by
  intro a ha
  simp only [some8, List.mem_cons, List.not_mem_nil, or_false] at ha
  rcases ha with rfl | rfl | rfl | rfl | rfl | rfl | rfl | rfl
  · exact eS40
  · exact eS41
  · exact eS42
  · exact eS43
  · exact eS44
  · exact eS45
  · exact eS46
  · exact eS47
theorem eT5 : ∀ b ∈ some8, gS2 (δS (.dict [(.str "a", .int 1)]) b) = some (.nx (δS (.dict [(.str "a", .int 1)]) b)) := by
  intro a ha
  simp only [some8, List.mem_cons, List.not_mem_nil, or_false] at ha
  rcases ha with rfl | rfl | rfl | rfl | rfl | rfl | rfl | rfl
  · exact eS50
  · exact eS51
  · exact eS52
  · exact eS53
  · exact eS54
  · exact eS55
  · exact eS56
  · exact eS57
theorem eT6 : ∀ b ∈ some8, gS2 (δS (.bool true) b) = some (.nx (δS (.bool true) b)) := by
  intro a ha
  simp only [some8, List.mem_cons, List.not_mem_nil, or_false] at ha
  rcases ha with rfl | rfl | rfl | rfl | rfl | rfl | rfl | rfl
  · exact eS60
  · exact eS61
  · exact eS62
  · exact eS63
  · exact eS64
  · exact eS65
  · exact eS66
  · exact eS67
theorem eT7 : ∀ b ∈ some8, gS2 (δS (.int (-100000000000000000000)) b) = some (.nx (δS (.int (-100000000000000000000)) b)) := by
  intro a ha
  simp only [some8, List.mem_cons, List.not_mem_nil, or_false] at ha
  rcases ha with rfl | rfl | rfl | rfl | rfl | rfl | rfl | rfl
  · exact eS70
  · exact eS71
  · exact eS72
  · exact eS73
  · exact eS74
  · exact eS75
  · exact eS76
  · exact eS77
theorem eS : ∀ a ∈ some8, ∀ b ∈ some8, gS2 (δS a b) = some (.nx (δS a b)) := by
  intro a ha
  simp only [some8, List.mem_cons, List.not_mem_nil, or_false] at ha
  rcases ha with rfl | rfl | rfl | rfl | rfl | rfl | rfl | rfl
  · exact eT0
  · exact eT1
  · exact eT2
  · exact eT3
  · exact eT4
  · exact eT5
  · exact eT6
  · exact eT7
def jL (L : Int) : Int := if (if L < 8 then L else 8) > 1 then (if L < 8 then L else 8) else 1
theorem jL_in {L : Int} (h0 : 0 ≤ L) : 1 ≤ jL L ∧ jL L ≤ 8 := by
  unfold jL
  by_cases h : L < 8
  · rw [if_pos h]
    by_cases g : L > 1
    · rw [if_pos g]; omega
    · rw [if_neg g]; omega
  · rw [if_neg h, if_pos (by decide)]
    omega
theorem np8 : npAll some8 = true := by decide +kernel
def spLaw (K : PySem.W.Frag) : Sp := fun vs H Q _ => Sy H ∧ ∃ (a : Addr) (ns : List Int), vs = [.ref a] ∧ SqL K H a (ns.map V.int) ∧ ns.length ≤ 63 ∧ ∀ H', Q (.bl true) H'
theorem at8 {K : PySem.W.Frag} {H : Hp} {vs : List V} (all : DtAll K H vs some8) {r : Int} (h0 : 0 ≤ r) (h1 : r < 8) : ∃ (v : V) (d : D), atI vs r = some v ∧ Dt K H v d ∧ d ∈ some8 := by
  have hk : r.toNat < some8.length := by
    show r.toNat < 8
    omega
  obtain ⟨v, ev, dv⟩ := all.at (List.getElem?_eq_getElem hk)
  have e : r = ((r.toNat : Nat) : Int) := by omega
  exact ⟨v, _, by rw [e]; exact atI_nat ev, dv, List.getElem_mem hk⟩
section
variable {P : Program} {w : World} {K : PySem.W.Frag} {mg : Str → Option Value} {base : Heap}
theorem ok_law (T : Fx K mg) (C1 : c_law_fields_right P w K mg base) (C2 : c_law_kinds P w K mg base) (C3 : c_law_made P w K mg base) (C4 : c_law_refused P w K mg base) (C5 : c_law_under P w K mg base)
    (K1 : Kn P w K mg base "_law_pool" 1 ["_law_script", "_law_k"] (spPool K)) (K2 : Kn P w K mg base "_law_take" 1 ["_law_pool_here", "_law_size"] spTake) {f : Addr} {fd : FuncData} (F : Fun K "law" "law" st_law f fd) : FnG P w K mg base 6 f fd ["_law_script"] (spLaw K) := by
  refine okG F sc_law (fun vs H Q E h => ?_) (fun cdv A outer s H vs Q E hr hG h => ?_)
  · obtain ⟨_, a, ns, rfl, _⟩ := h
    rfl
  obtain ⟨sy, a, ns, rfl, hS, hl, q⟩ := h
  have hu := hr.units
  obtain ⟨f1, fd1, F1, g1, k1, b1⟩ := K1.ex
  obtain ⟨f2, fd2, F2, g2, k2, b2⟩ := K2.ex
  refine ⟨_, pss_cons (pS0 T C1 C2 C3 C4 C5 hr hG) (pss_cons (ps_for PassesOwn.never rfl (pi_range1 (by rfl) T.z_range (pa_cons (pe_callB (call_max2 rfl) (by rfl) T.z_max (by decide +kernel) (pa_cons pe_int (pa_cons (pe_callB (call_min2 rfl) (by rfl) T.z_min (by decide +kernel) (pa_cons pe_int (pa_cons (pe_callB call_len_seq (by rfl) T.z_len PySem.boot_len (pa_cons (pv 0) pa_nil)) pa_nil))) pa_nil))) pa_nil)) (pg_name (i := 2) sc_law.nd rfl (Or.inl rfl))
      (pss_cons (ps_set (i := 3) sc_law.nd rfl (Or.inl rfl) (pe_call F1 (hr.mono (by decide)) (by rfl) g1 k1 b1 .nil pass0 (pa_cons (pv 0) (pa_cons (pv 2) pa_nil))))
      (pss_cons (ps_par (i := 4) (j := 5) rfl sc_law.nd rfl rfl (by decide) rfl rfl (pa_cons (pe_ix ix_list (pv 1) (pe_call F2 (hr.mono (by decide)) (by rfl) g2 k2 b2 .nil pass0 (pa_cons (pv 3) (pa_cons pe_int pa_nil))) (fun _ _ => rfl)) (pa_cons (pe_ix ix_list (pv 1) (pe_call F2 (hr.mono (by decide)) (by rfl) g2 k2 b2 .nil pass0 (pa_cons (pv 3) (pa_cons pe_int pa_nil))) (fun _ _ => rfl)) pa_nil)) (by rfl))
      (pss_cons (pS2 T C1 C2 C3 C4 C5 hr hG) (pss_one (pS3 T C1 C2 C3 C4 C5 hr hG)))))) (pss_one (ps_ret pe_bl))), ?_⟩
  have l0 : (L2.start ["_law_script", "_law_some", "_law_k", "_law_pool_here", "_law_one", "_law_other", "_law_at", "_law_error", "_law_number_now", "_law_under_here"] [V.ref a]).length = 10 := rfl
  refine ⟨δ0, .nx δ1, er0 sy l0, e0, fun σ1 H1 s1 r1 z1 => ?_⟩
  have zz : σ1[0]? = some (some (.ref a)) := z1
  have hS1 : SqL K H1 a (ns.map V.int) := s1.seq hS
  obtain ⟨j1, j2⟩ := jL_in (L := ((ns.map V.int).length : Int)) (by omega)
  refine ⟨.ref a, zz, a, ns.map V.int, rfl, .inl hS1, 8, _, rfl, 1, _, rfl, jL ((ns.map V.int).length : Int), rfl, by omega, by omega,
    for_range (lo := 0) (fun i σ H => Same H1 H ∧ σ[0]? = some (some (.ref a)) ∧ Er K H σ δ1) ⟨Same.refl _, zz, r1⟩ (fun i σ H9 hi pv => ?_) (fun σ H9 pv => ?_)⟩
  case refine_2 => exact q _
  obtain ⟨t9, z9, r9⟩ := pv
  have l9 : σ.length = 10 := r9.len
  have hi8 : i < 8 := by omega
  -- the pool
  refine ⟨.ref a, by rw [List.getElem?_set_ne (by decide)]; exact z9, .int (0 + (i : Int)), List.getElem?_set_self (by rw [l9]; decide), a, ns, i, by simp, t9.seq hS1, by omega, by omega, fun p H10 s10 pl np10 => ?_⟩
  obtain ⟨v1, e1, dv1⟩ := r9.val 1 (.list some8) rfl
  obtain ⟨L, ws, rfl, hL, all⟩ := Dt.list dv1
  have hL10 : H10 L = some (.lst ws) := s10 _ _ hL
  have nLp : L ≠ p := ne_of_none hL np10
  have lA : ((σ.set 2 (some (.int (0 + (i : Int))))).set 3 (some (V.ref p))).length = 10 := by simp [l9]
  have zA : ((σ.set 2 (some (.int (0 + (i : Int))))).set 3 (some (V.ref p)))[0]? = some (some (.ref a)) := by rw [List.getElem?_set_ne (by decide), List.getElem?_set_ne (by decide)]; exact z9
  have oA : ((σ.set 2 (some (.int (0 + (i : Int))))).set 3 (some (V.ref p)))[1]? = some (some (.ref L)) := by rw [List.getElem?_set_ne (by decide), List.getElem?_set_ne (by decide)]; exact e1
  have pA : ((σ.set 2 (some (.int (0 + (i : Int))))).set 3 (some (V.ref p)))[3]? = some (some (.ref p)) := List.getElem?_set_self (by simp [l9])
  have all10 : DtAll K H10 ws some8 := all.on s10
  -- the two that are drawn
  refine ⟨.ref L, oA, .ref p, pA, p, 8, rfl, by decide, by decide, pl, fun x1 H11 x10 x11 sm1 => ?_⟩
  have all11 : DtAll K H11 ws some8 := DtAll.but pl sm1.but _ _ np8 all10
  have hL11 : H11 L = some (.lst ws) := sm1.but _ _ nLp hL10
  obtain ⟨u1, d1, a1, du1, m1⟩ := at8 all11 x10 x11
  refine ⟨L, ws, x1, u1, rfl, rfl, SqL.of hL11, a1, .ref L, oA, .ref p, pA, p, 8, rfl, by decide, by decide, sm1.pool, fun x2 H12 x20 x21 sm2 => ?_⟩
  have all12 : DtAll K H12 ws some8 := DtAll.but sm1.pool sm2.but _ _ np8 all11
  have hL12 : H12 L = some (.lst ws) := sm2.but _ _ nLp hL11
  obtain ⟨u2, d2, a2, du2, m2⟩ := at8 all12 x20 x21
  have du1' : Dt K H12 u1 d1 := by
    have n1 : np d1 = true := by
      obtain ⟨i1, h1, e1⟩ := List.getElem_of_mem m1
      exact npAll_at np8 (by rw [List.getElem?_eq_getElem h1, e1])
    exact Dt.but sm1.pool sm2.but d1 u1 n1 du1
  refine ⟨L, ws, x2, u2, rfl, rfl, SqL.of hL12, a2, u1, u2, rfl, ?_⟩
  have sm : Sm p H10 H12 := sm1.trans sm2
  have sy12 : Sy H12 := ((sy.on s1).on (t9.trans s10)).but pl sm.but
  have r12 : Er K H12 ((σ.set 2 (some (.int (0 + (i : Int))))).set 3 (some (V.ref p))) δ1 := er_one (er0 sy12 lA) oA (.lst hL12 all12)
  have r13 : Er K H12 ((((σ.set 2 (some (.int (0 + (i : Int))))).set 3 (some (V.ref p))).set 4 (some u1)).set 5 (some u2)) (δS d1 d2) := (r12.set 4 du1').set 5 du2
  refine ⟨δS d1 d2, .nx (δS d1 d2), r13, eS d1 m1 d2 m2, fun σ3 H13 s13 r14 z3 => ?_⟩
  have r15 : Er K H13 σ3 (δF d1) := r14.drop 5
  refine ⟨δF d1, .nx (δE d1), r15, eF d1 m1, fun σ4 H14 s14 r16 z4 => ?_⟩
  have r17 : Er K H14 σ4 δ1 := (((r16.drop 4).drop 6).drop 7).drop 9
  refine ⟨fun c ob e => ?_, z4.trans (z3.trans ?_), r17⟩
  · have n8 : H1 p = none := t9.free np10
    have nc : c ≠ p := ne_of_none e n8
    exact s14 _ _ (s13 _ _ (sm.but c ob nc (s10 _ _ (t9 _ _ e))))
  · rw [List.getElem?_set_ne (by decide), List.getElem?_set_ne (by decide)]
    exact zA
end
end W4

namespace W4
open PySem PySem.Spec PyProof.Rows L2 Wn
/-- what is asked of a class beside the others: the table of isinstance -/
def kitT (K : PySem.W.Frag) (C : Addr) (x : Str) (cs : List (Str × Value)) : Bool := cs.all fun q => decide (PySem.W.kitOne K (.ref C) q.2 = some ((x == q.1) || (above x).contains q.1))
theorem kitT_at {K : PySem.W.Frag} {C : Addr} {x c : Str} {v : Value} {cs : List (Str × Value)} (h : kitT K C x cs = true) (m : (c, v) ∈ cs) : PySem.W.kitOne K (.ref C) v = some ((x == c) || (above x).contains c) := of_decide_eq_true (List.all_eq_true.mp h _ m)
theorem clsT_of {K : PySem.W.Frag} {c : Str} {v : Value} (h : ∀ x ∈ names, ∃ C, PySem.W.nsIn K mainGlobals x = some (some (.ref C)) ∧ ExcC K C ∧ PySem.W.kitOne K (.ref C) v = some ((x == c) || (above x).contains c)) : ClsT K v (tbl c) := fun q hq => by
  obtain ⟨x, hx, rfl⟩ := List.mem_map.mp hq
  exact h x hx
theorem all_mk {l : PySem.W.OpenLaw} {w : World} {K : PySem.W.Frag} {h : Heap} {mg : Str → Option Value} {fa : Addr} (X : K.In h) (G : h.Ns mainGlobals mg) (hfa : mg "law" = some (.ref fa)) {f0 f1 f2 f3 f4 f5 f6 f7 f8 f9 f10 C_NoProgram C_NoSet C_NoNames C_NoText C_NoRun C_NoStep C_NoNumber C_NoLine C_NoNet C_NoMarking C_NoTeller C_NoRow C_Unlike C_NoKind C_NoBody C_NoHouse C_NoLot C_NoState C_NoRule C_NoDesk C_TooMany C_MeetError I_NoProgram I_NoSet I_NoNames I_NoText I_NoRun I_NoKind I_NoBody I_NoHouse I_NoLot I_NoState I_NoRule I_TooMany : Addr} {od0 od1 od2 od3 od4 od5 od6 od7 od8 od9 od10 an0 an1 an2 an3 an4 an5 an6 an7 an8 an9 an10 od_NoProgram od_NoSet od_NoNames od_NoText od_NoRun od_NoKind od_NoBody od_NoHouse od_NoLot od_NoState od_NoRule od_TooMany an_NoProgram an_NoSet an_NoNames an_NoText an_NoRun an_NoKind an_NoBody an_NoHouse an_NoLot an_NoState an_NoRule an_TooMany : Option Addr} {sl0 sl1 sl2 sl3 sl4 sl5 sl6 sl7 sl8 sl9 sl10 sl_NoProgram sl_NoSet sl_NoNames sl_NoText sl_NoRun sl_NoKind sl_NoBody sl_NoHouse sl_NoLot sl_NoState sl_NoRule sl_TooMany : Array (Option Value)} {oc0 oc1 oc2 oc3 oc4 oc5 oc6 oc7 oc8 oc9 oc10 oc_NoProgram oc_NoSet oc_NoNames oc_NoText oc_NoRun oc_NoKind oc_NoBody oc_NoHouse oc_NoLot oc_NoState oc_NoRule oc_TooMany kV0 kV1 kV2 kV3 kV4 kV5 kV6 kV7 kV8 kV9 kV10 kV_NoProgram kV_NoSet kV_NoNames kV_NoText kV_NoRun kV_NoKind kV_NoBody kV_NoHouse kV_NoLot kV_NoState kV_NoRule kV_TooMany dc0 dc1 dc2 dc3 dc4 dc5 dc6 dc7 dc8 dc9 dc10 dc_NoProgram dc_NoSet dc_NoNames dc_NoText dc_NoRun dc_NoKind dc_NoBody dc_NoHouse dc_NoLot dc_NoState dc_NoRule dc_TooMany pm0 pm1 pm2 pm3 pm4 pm5 pm6 pm7 pm8 pm9 pm10 pm_NoProgram pm_NoSet pm_NoNames pm_NoText pm_NoRun pm_NoKind pm_NoBody pm_NoHouse pm_NoLot pm_NoState pm_NoRule pm_TooMany cd0 cd1 cd2 cd3 cd4 cd5 cd6 cd7 cd8 cd9 cd10 cd_NoProgram cd_NoSet cd_NoNames cd_NoText cd_NoRun cd_NoKind cd_NoBody cd_NoHouse cd_NoLot cd_NoState cd_NoRule cd_TooMany ct0 ct1 ct2 ct3 ct4 ct5 ct6 ct7 ct8 ct9 ct10 ct_NoProgram ct_NoSet ct_NoNames ct_NoText ct_NoRun ct_NoKind ct_NoBody ct_NoHouse ct_NoLot ct_NoState ct_NoRule ct_TooMany : Value} {t_MOST_KINDS t_MOST_IN_MAIN : Tok}
    (a0 : PySem.W.nsIn K mainGlobals "is_tuple_of" = some (some (.ref f0)))
    (l0 : K.lookup f0 = some ⟨oc0, od0, .func (PySem.W.fnOf "is_tuple_of" "is_tuple_of" (defArgs st_is_tuple_of) (defBody st_is_tuple_of) (defScope st_is_tuple_of) .none kV0 dc0 pm0 an0 cd0 ct0), sl0⟩)
    (c0 : PySem.W.codeIn K cd0 "is_tuple_of" = true)
    (k0 : PySem.W.keepIn K (.ref f0) = true)
    (a1 : PySem.W.nsIn K mainGlobals "is_frame" = some (some (.ref f1)))
    (l1 : K.lookup f1 = some ⟨oc1, od1, .func (PySem.W.fnOf "is_frame" "is_frame" (defArgs st_is_frame) (defBody st_is_frame) (defScope st_is_frame) .none kV1 dc1 pm1 an1 cd1 ct1), sl1⟩)
    (c1 : PySem.W.codeIn K cd1 "is_frame" = true)
    (k1 : PySem.W.keepIn K (.ref f1) = true)
    (a2 : PySem.W.nsIn K mainGlobals "look_at_program" = some (some (.ref f2)))
    (l2 : K.lookup f2 = some ⟨oc2, od2, .func (PySem.W.fnOf "look_at_program" "look_at_program" (defArgs st_look) (defBody st_look) (defScope st_look) .none kV2 dc2 pm2 an2 cd2 ct2), sl2⟩)
    (c2 : PySem.W.codeIn K cd2 "look_at_program" = true)
    (k2 : PySem.W.keepIn K (.ref f2) = true)
    (a3 : PySem.W.nsIn K mainGlobals "_law_pool" = some (some (.ref f3)))
    (l3 : K.lookup f3 = some ⟨oc3, od3, .func (PySem.W.fnOf "_law_pool" "_law_pool" (defArgs st__law_pool) (defBody st__law_pool) (defScope st__law_pool) .none kV3 dc3 pm3 an3 cd3 ct3), sl3⟩)
    (c3 : PySem.W.codeIn K cd3 "_law_pool" = true)
    (k3 : PySem.W.keepIn K (.ref f3) = true)
    (a4 : PySem.W.nsIn K mainGlobals "_law_take" = some (some (.ref f4)))
    (l4 : K.lookup f4 = some ⟨oc4, od4, .func (PySem.W.fnOf "_law_take" "_law_take" (defArgs st__law_take) (defBody st__law_take) (defScope st__law_take) .none kV4 dc4 pm4 an4 cd4 ct4), sl4⟩)
    (c4 : PySem.W.codeIn K cd4 "_law_take" = true)
    (k4 : PySem.W.keepIn K (.ref f4) = true)
    (a5 : PySem.W.nsIn K mainGlobals "_law_made" = some (some (.ref f5)))
    (l5 : K.lookup f5 = some ⟨oc5, od5, .func (PySem.W.fnOf "_law_made" "_law_made" (defArgs st__law_made) (defBody st__law_made) (defScope st__law_made) .none kV5 dc5 pm5 an5 cd5 ct5), sl5⟩)
    (c5 : PySem.W.codeIn K cd5 "_law_made" = true)
    (k5 : PySem.W.keepIn K (.ref f5) = true)
    (a6 : PySem.W.nsIn K mainGlobals "_law_kinds" = some (some (.ref f6)))
    (l6 : K.lookup f6 = some ⟨oc6, od6, .func (PySem.W.fnOf "_law_kinds" "_law_kinds" (defArgs st__law_kinds) (defBody st__law_kinds) (defScope st__law_kinds) .none kV6 dc6 pm6 an6 cd6 ct6), sl6⟩)
    (c6 : PySem.W.codeIn K cd6 "_law_kinds" = true)
    (k6 : PySem.W.keepIn K (.ref f6) = true)
    (a7 : PySem.W.nsIn K mainGlobals "_law_under" = some (some (.ref f7)))
    (l7 : K.lookup f7 = some ⟨oc7, od7, .func (PySem.W.fnOf "_law_under" "_law_under" (defArgs st__law_under) (defBody st__law_under) (defScope st__law_under) .none kV7 dc7 pm7 an7 cd7 ct7), sl7⟩)
    (c7 : PySem.W.codeIn K cd7 "_law_under" = true)
    (k7 : PySem.W.keepIn K (.ref f7) = true)
    (a8 : PySem.W.nsIn K mainGlobals "_law_fields_right" = some (some (.ref f8)))
    (l8 : K.lookup f8 = some ⟨oc8, od8, .func (PySem.W.fnOf "_law_fields_right" "_law_fields_right" (defArgs st__law_fields_right) (defBody st__law_fields_right) (defScope st__law_fields_right) .none kV8 dc8 pm8 an8 cd8 ct8), sl8⟩)
    (c8 : PySem.W.codeIn K cd8 "_law_fields_right" = true)
    (k8 : PySem.W.keepIn K (.ref f8) = true)
    (a9 : PySem.W.nsIn K mainGlobals "_law_refused" = some (some (.ref f9)))
    (l9 : K.lookup f9 = some ⟨oc9, od9, .func (PySem.W.fnOf "_law_refused" "_law_refused" (defArgs st__law_refused) (defBody st__law_refused) (defScope st__law_refused) .none kV9 dc9 pm9 an9 cd9 ct9), sl9⟩)
    (c9 : PySem.W.codeIn K cd9 "_law_refused" = true)
    (k9 : PySem.W.keepIn K (.ref f9) = true)
    (a10 : PySem.W.nsIn K mainGlobals "law" = some (some (.ref f10)))
    (l10 : K.lookup f10 = some ⟨oc10, od10, .func (PySem.W.fnOf "law" "law" (defArgs st_law) (defBody st_law) (defScope st_law) .none kV10 dc10 pm10 an10 cd10 ct10), sl10⟩)
    (c10 : PySem.W.codeIn K cd10 "law" = true)
    (k10 : PySem.W.keepIn K (.ref f10) = true)
    (z_IndexError : PySem.W.nsIn K mainGlobals "IndexError" = some none)
    (z_KeyError : PySem.W.nsIn K mainGlobals "KeyError" = some none)
    (z_LookupError : PySem.W.nsIn K mainGlobals "LookupError" = some none)
    (z_OverflowError : PySem.W.nsIn K mainGlobals "OverflowError" = some none)
    (z_ValueError : PySem.W.nsIn K mainGlobals "ValueError" = some none)
    (z_enumerate : PySem.W.nsIn K mainGlobals "enumerate" = some none)
    (z_int : PySem.W.nsIn K mainGlobals "int" = some none)
    (z_isinstance : PySem.W.nsIn K mainGlobals "isinstance" = some none)
    (z_len : PySem.W.nsIn K mainGlobals "len" = some none)
    (z_max : PySem.W.nsIn K mainGlobals "max" = some none)
    (z_min : PySem.W.nsIn K mainGlobals "min" = some none)
    (z_range : PySem.W.nsIn K mainGlobals "range" = some none)
    (z_repr : PySem.W.nsIn K mainGlobals "repr" = some none)
    (z_tuple : PySem.W.nsIn K mainGlobals "tuple" = some none)
    (v_MOST_KINDS : PySem.W.nsIn K mainGlobals "MOST_KINDS" = some (some (.int 6 t_MOST_KINDS)))
    (v_MOST_IN_MAIN : PySem.W.nsIn K mainGlobals "MOST_IN_MAIN" = some (some (.int 16 t_MOST_IN_MAIN)))
    (n_NoProgram : PySem.W.nsIn K mainGlobals "NoProgram" = some (some (.ref C_NoProgram)))
    (n_NoSet : PySem.W.nsIn K mainGlobals "NoSet" = some (some (.ref C_NoSet)))
    (n_NoNames : PySem.W.nsIn K mainGlobals "NoNames" = some (some (.ref C_NoNames)))
    (n_NoText : PySem.W.nsIn K mainGlobals "NoText" = some (some (.ref C_NoText)))
    (n_NoRun : PySem.W.nsIn K mainGlobals "NoRun" = some (some (.ref C_NoRun)))
    (n_NoStep : PySem.W.nsIn K mainGlobals "NoStep" = some (some (.ref C_NoStep)))
    (n_NoNumber : PySem.W.nsIn K mainGlobals "NoNumber" = some (some (.ref C_NoNumber)))
    (n_NoLine : PySem.W.nsIn K mainGlobals "NoLine" = some (some (.ref C_NoLine)))
    (n_NoNet : PySem.W.nsIn K mainGlobals "NoNet" = some (some (.ref C_NoNet)))
    (n_NoMarking : PySem.W.nsIn K mainGlobals "NoMarking" = some (some (.ref C_NoMarking)))
    (n_NoTeller : PySem.W.nsIn K mainGlobals "NoTeller" = some (some (.ref C_NoTeller)))
    (n_NoRow : PySem.W.nsIn K mainGlobals "NoRow" = some (some (.ref C_NoRow)))
    (n_Unlike : PySem.W.nsIn K mainGlobals "Unlike" = some (some (.ref C_Unlike)))
    (n_NoKind : PySem.W.nsIn K mainGlobals "NoKind" = some (some (.ref C_NoKind)))
    (n_NoBody : PySem.W.nsIn K mainGlobals "NoBody" = some (some (.ref C_NoBody)))
    (n_NoHouse : PySem.W.nsIn K mainGlobals "NoHouse" = some (some (.ref C_NoHouse)))
    (n_NoLot : PySem.W.nsIn K mainGlobals "NoLot" = some (some (.ref C_NoLot)))
    (n_NoState : PySem.W.nsIn K mainGlobals "NoState" = some (some (.ref C_NoState)))
    (n_NoRule : PySem.W.nsIn K mainGlobals "NoRule" = some (some (.ref C_NoRule)))
    (n_NoDesk : PySem.W.nsIn K mainGlobals "NoDesk" = some (some (.ref C_NoDesk)))
    (n_TooMany : PySem.W.nsIn K mainGlobals "TooMany" = some (some (.ref C_TooMany)))
    (n_MeetError : PySem.W.nsIn K mainGlobals "MeetError" = some (some (.ref C_MeetError)))
    (x_NoProgram : xcB bVE K C_NoProgram = true)
    (i_NoProgram : PySem.W.findIn K (.ref C_NoProgram) "__init__" = some (some (.ref I_NoProgram)))
    (t_NoProgram : PySem.W.typeIn K (.ref I_NoProgram) = some (.type "function"))
    (l_NoProgram : K.lookup I_NoProgram = some ⟨oc_NoProgram, od_NoProgram, .func (PySem.W.fnOf "__init__" "NoProgram.__init__" (defArgs st_NoProgram) (defBody st_NoProgram) (defScope st_NoProgram) .none kV_NoProgram dc_NoProgram pm_NoProgram an_NoProgram cd_NoProgram ct_NoProgram), sl_NoProgram⟩)
    (c_NoProgram : PySem.W.codeIn K cd_NoProgram "NoProgram.__init__" = true)
    (k_NoProgram : PySem.W.keepIn K (.ref I_NoProgram) = true)
    (g_NoProgram_kind : PySem.W.findIn K (.ref C_NoProgram) "kind" = some none)
    (g_NoProgram_rule : PySem.W.findIn K (.ref C_NoProgram) "rule" = some none)
    (g_NoProgram_deed : PySem.W.findIn K (.ref C_NoProgram) "deed" = some none)
    (x_NoSet : xcB bVE K C_NoSet = true)
    (i_NoSet : PySem.W.findIn K (.ref C_NoSet) "__init__" = some (some (.ref I_NoSet)))
    (t_NoSet : PySem.W.typeIn K (.ref I_NoSet) = some (.type "function"))
    (l_NoSet : K.lookup I_NoSet = some ⟨oc_NoSet, od_NoSet, .func (PySem.W.fnOf "__init__" "NoSet.__init__" (defArgs st_NoSet) (defBody st_NoSet) (defScope st_NoSet) .none kV_NoSet dc_NoSet pm_NoSet an_NoSet cd_NoSet ct_NoSet), sl_NoSet⟩)
    (c_NoSet : PySem.W.codeIn K cd_NoSet "NoSet.__init__" = true)
    (k_NoSet : PySem.W.keepIn K (.ref I_NoSet) = true)
    (g_NoSet_thing : PySem.W.findIn K (.ref C_NoSet) "thing" = some none)
    (x_NoNames : xcB bVE K C_NoNames = true)
    (i_NoNames : PySem.W.findIn K (.ref C_NoNames) "__init__" = some (some (.ref I_NoNames)))
    (t_NoNames : PySem.W.typeIn K (.ref I_NoNames) = some (.type "function"))
    (l_NoNames : K.lookup I_NoNames = some ⟨oc_NoNames, od_NoNames, .func (PySem.W.fnOf "__init__" "NoNames.__init__" (defArgs st_NoNames) (defBody st_NoNames) (defScope st_NoNames) .none kV_NoNames dc_NoNames pm_NoNames an_NoNames cd_NoNames ct_NoNames), sl_NoNames⟩)
    (c_NoNames : PySem.W.codeIn K cd_NoNames "NoNames.__init__" = true)
    (k_NoNames : PySem.W.keepIn K (.ref I_NoNames) = true)
    (g_NoNames_thing : PySem.W.findIn K (.ref C_NoNames) "thing" = some none)
    (x_NoText : xcB bVE K C_NoText = true)
    (i_NoText : PySem.W.findIn K (.ref C_NoText) "__init__" = some (some (.ref I_NoText)))
    (t_NoText : PySem.W.typeIn K (.ref I_NoText) = some (.type "function"))
    (l_NoText : K.lookup I_NoText = some ⟨oc_NoText, od_NoText, .func (PySem.W.fnOf "__init__" "NoText.__init__" (defArgs st_NoText) (defBody st_NoText) (defScope st_NoText) .none kV_NoText dc_NoText pm_NoText an_NoText cd_NoText ct_NoText), sl_NoText⟩)
    (c_NoText : PySem.W.codeIn K cd_NoText "NoText.__init__" = true)
    (k_NoText : PySem.W.keepIn K (.ref I_NoText) = true)
    (g_NoText_row : PySem.W.findIn K (.ref C_NoText) "row" = some none)
    (x_NoRun : xcB bVE K C_NoRun = true)
    (i_NoRun : PySem.W.findIn K (.ref C_NoRun) "__init__" = some (some (.ref I_NoRun)))
    (t_NoRun : PySem.W.typeIn K (.ref I_NoRun) = some (.type "function"))
    (l_NoRun : K.lookup I_NoRun = some ⟨oc_NoRun, od_NoRun, .func (PySem.W.fnOf "__init__" "NoRun.__init__" (defArgs st_NoRun) (defBody st_NoRun) (defScope st_NoRun) .none kV_NoRun dc_NoRun pm_NoRun an_NoRun cd_NoRun ct_NoRun), sl_NoRun⟩)
    (c_NoRun : PySem.W.codeIn K cd_NoRun "NoRun.__init__" = true)
    (k_NoRun : PySem.W.keepIn K (.ref I_NoRun) = true)
    (g_NoRun_number : PySem.W.findIn K (.ref C_NoRun) "number" = some none)
    (x_NoKind : xcB bKE K C_NoKind = true)
    (i_NoKind : PySem.W.findIn K (.ref C_NoKind) "__init__" = some (some (.ref I_NoKind)))
    (t_NoKind : PySem.W.typeIn K (.ref I_NoKind) = some (.type "function"))
    (l_NoKind : K.lookup I_NoKind = some ⟨oc_NoKind, od_NoKind, .func (PySem.W.fnOf "__init__" "NoKind.__init__" (defArgs st_NoKind) (defBody st_NoKind) (defScope st_NoKind) .none kV_NoKind dc_NoKind pm_NoKind an_NoKind cd_NoKind ct_NoKind), sl_NoKind⟩)
    (c_NoKind : PySem.W.codeIn K cd_NoKind "NoKind.__init__" = true)
    (k_NoKind : PySem.W.keepIn K (.ref I_NoKind) = true)
    (g_NoKind_thing : PySem.W.findIn K (.ref C_NoKind) "thing" = some none)
    (x_NoBody : xcB bKE K C_NoBody = true)
    (i_NoBody : PySem.W.findIn K (.ref C_NoBody) "__init__" = some (some (.ref I_NoBody)))
    (t_NoBody : PySem.W.typeIn K (.ref I_NoBody) = some (.type "function"))
    (l_NoBody : K.lookup I_NoBody = some ⟨oc_NoBody, od_NoBody, .func (PySem.W.fnOf "__init__" "NoBody.__init__" (defArgs st_NoBody) (defBody st_NoBody) (defScope st_NoBody) .none kV_NoBody dc_NoBody pm_NoBody an_NoBody cd_NoBody ct_NoBody), sl_NoBody⟩)
    (c_NoBody : PySem.W.codeIn K cd_NoBody "NoBody.__init__" = true)
    (k_NoBody : PySem.W.keepIn K (.ref I_NoBody) = true)
    (g_NoBody_thing : PySem.W.findIn K (.ref C_NoBody) "thing" = some none)
    (x_NoHouse : xcB bKE K C_NoHouse = true)
    (i_NoHouse : PySem.W.findIn K (.ref C_NoHouse) "__init__" = some (some (.ref I_NoHouse)))
    (t_NoHouse : PySem.W.typeIn K (.ref I_NoHouse) = some (.type "function"))
    (l_NoHouse : K.lookup I_NoHouse = some ⟨oc_NoHouse, od_NoHouse, .func (PySem.W.fnOf "__init__" "NoHouse.__init__" (defArgs st_NoHouse) (defBody st_NoHouse) (defScope st_NoHouse) .none kV_NoHouse dc_NoHouse pm_NoHouse an_NoHouse cd_NoHouse ct_NoHouse), sl_NoHouse⟩)
    (c_NoHouse : PySem.W.codeIn K cd_NoHouse "NoHouse.__init__" = true)
    (k_NoHouse : PySem.W.keepIn K (.ref I_NoHouse) = true)
    (g_NoHouse_thing : PySem.W.findIn K (.ref C_NoHouse) "thing" = some none)
    (x_NoLot : xcB bIE K C_NoLot = true)
    (i_NoLot : PySem.W.findIn K (.ref C_NoLot) "__init__" = some (some (.ref I_NoLot)))
    (t_NoLot : PySem.W.typeIn K (.ref I_NoLot) = some (.type "function"))
    (l_NoLot : K.lookup I_NoLot = some ⟨oc_NoLot, od_NoLot, .func (PySem.W.fnOf "__init__" "NoLot.__init__" (defArgs st_NoLot) (defBody st_NoLot) (defScope st_NoLot) .none kV_NoLot dc_NoLot pm_NoLot an_NoLot cd_NoLot ct_NoLot), sl_NoLot⟩)
    (c_NoLot : PySem.W.codeIn K cd_NoLot "NoLot.__init__" = true)
    (k_NoLot : PySem.W.keepIn K (.ref I_NoLot) = true)
    (g_NoLot_thing : PySem.W.findIn K (.ref C_NoLot) "thing" = some none)
    (x_NoState : xcB bIE K C_NoState = true)
    (i_NoState : PySem.W.findIn K (.ref C_NoState) "__init__" = some (some (.ref I_NoState)))
    (t_NoState : PySem.W.typeIn K (.ref I_NoState) = some (.type "function"))
    (l_NoState : K.lookup I_NoState = some ⟨oc_NoState, od_NoState, .func (PySem.W.fnOf "__init__" "NoState.__init__" (defArgs st_NoState) (defBody st_NoState) (defScope st_NoState) .none kV_NoState dc_NoState pm_NoState an_NoState cd_NoState ct_NoState), sl_NoState⟩)
    (c_NoState : PySem.W.codeIn K cd_NoState "NoState.__init__" = true)
    (k_NoState : PySem.W.keepIn K (.ref I_NoState) = true)
    (g_NoState_thing : PySem.W.findIn K (.ref C_NoState) "thing" = some none)
    (x_NoRule : xcB bIE K C_NoRule = true)
    (i_NoRule : PySem.W.findIn K (.ref C_NoRule) "__init__" = some (some (.ref I_NoRule)))
    (t_NoRule : PySem.W.typeIn K (.ref I_NoRule) = some (.type "function"))
    (l_NoRule : K.lookup I_NoRule = some ⟨oc_NoRule, od_NoRule, .func (PySem.W.fnOf "__init__" "NoRule.__init__" (defArgs st_NoRule) (defBody st_NoRule) (defScope st_NoRule) .none kV_NoRule dc_NoRule pm_NoRule an_NoRule cd_NoRule ct_NoRule), sl_NoRule⟩)
    (c_NoRule : PySem.W.codeIn K cd_NoRule "NoRule.__init__" = true)
    (k_NoRule : PySem.W.keepIn K (.ref I_NoRule) = true)
    (g_NoRule_thing : PySem.W.findIn K (.ref C_NoRule) "thing" = some none)
    (x_TooMany : xcB bOE K C_TooMany = true)
    (i_TooMany : PySem.W.findIn K (.ref C_TooMany) "__init__" = some (some (.ref I_TooMany)))
    (t_TooMany : PySem.W.typeIn K (.ref I_TooMany) = some (.type "function"))
    (l_TooMany : K.lookup I_TooMany = some ⟨oc_TooMany, od_TooMany, .func (PySem.W.fnOf "__init__" "TooMany.__init__" (defArgs st_TooMany) (defBody st_TooMany) (defScope st_TooMany) .none kV_TooMany dc_TooMany pm_TooMany an_TooMany cd_TooMany ct_TooMany), sl_TooMany⟩)
    (c_TooMany : PySem.W.codeIn K cd_TooMany "TooMany.__init__" = true)
    (k_TooMany : PySem.W.keepIn K (.ref I_TooMany) = true)
    (g_TooMany_many : PySem.W.findIn K (.ref C_TooMany) "many" = some none)
    (q_NoStep : PySem.W.excIn K C_NoStep [.type "ValueError", .type "Exception", .type "BaseException", .type "object"] "ValueError.__new__" = true)
    (p_NoStep : PySem.W.keepIn K (.ref C_NoStep) = true)
    (e_NoStep : excB K C_NoStep = true)
    (q_NoNumber : PySem.W.excIn K C_NoNumber [.type "ValueError", .type "Exception", .type "BaseException", .type "object"] "ValueError.__new__" = true)
    (p_NoNumber : PySem.W.keepIn K (.ref C_NoNumber) = true)
    (e_NoNumber : excB K C_NoNumber = true)
    (q_NoLine : PySem.W.excIn K C_NoLine [.type "ValueError", .type "Exception", .type "BaseException", .type "object"] "ValueError.__new__" = true)
    (p_NoLine : PySem.W.keepIn K (.ref C_NoLine) = true)
    (e_NoLine : excB K C_NoLine = true)
    (q_NoNet : PySem.W.excIn K C_NoNet [.type "ValueError", .type "Exception", .type "BaseException", .type "object"] "ValueError.__new__" = true)
    (p_NoNet : PySem.W.keepIn K (.ref C_NoNet) = true)
    (e_NoNet : excB K C_NoNet = true)
    (q_NoMarking : PySem.W.excIn K C_NoMarking [.type "ValueError", .type "Exception", .type "BaseException", .type "object"] "ValueError.__new__" = true)
    (p_NoMarking : PySem.W.keepIn K (.ref C_NoMarking) = true)
    (e_NoMarking : excB K C_NoMarking = true)
    (q_NoTeller : PySem.W.excIn K C_NoTeller [.type "ValueError", .type "Exception", .type "BaseException", .type "object"] "ValueError.__new__" = true)
    (p_NoTeller : PySem.W.keepIn K (.ref C_NoTeller) = true)
    (e_NoTeller : excB K C_NoTeller = true)
    (q_NoRow : PySem.W.excIn K C_NoRow [.type "ValueError", .type "Exception", .type "BaseException", .type "object"] "ValueError.__new__" = true)
    (p_NoRow : PySem.W.keepIn K (.ref C_NoRow) = true)
    (e_NoRow : excB K C_NoRow = true)
    (q_Unlike : PySem.W.excIn K C_Unlike [.type "ValueError", .type "Exception", .type "BaseException", .type "object"] "ValueError.__new__" = true)
    (p_Unlike : PySem.W.keepIn K (.ref C_Unlike) = true)
    (e_Unlike : excB K C_Unlike = true)
    (q_NoDesk : PySem.W.excIn K C_NoDesk [.type "LookupError", .type "Exception", .type "BaseException", .type "object"] "LookupError.__new__" = true)
    (p_NoDesk : PySem.W.keepIn K (.ref C_NoDesk) = true)
    (e_NoDesk : excB K C_NoDesk = true)
    (w_NoProgram : kitT K C_NoProgram "NoProgram" [("NoProgram", Value.ref C_NoProgram), ("NoSet", Value.ref C_NoSet), ("NoNames", Value.ref C_NoNames), ("NoText", Value.ref C_NoText), ("NoRun", Value.ref C_NoRun), ("NoStep", Value.ref C_NoStep), ("NoNumber", Value.ref C_NoNumber), ("NoLine", Value.ref C_NoLine), ("NoNet", Value.ref C_NoNet), ("NoMarking", Value.ref C_NoMarking), ("NoTeller", Value.ref C_NoTeller), ("NoRow", Value.ref C_NoRow), ("Unlike", Value.ref C_Unlike), ("NoKind", Value.ref C_NoKind), ("NoBody", Value.ref C_NoBody), ("NoHouse", Value.ref C_NoHouse), ("NoLot", Value.ref C_NoLot), ("NoState", Value.ref C_NoState), ("NoRule", Value.ref C_NoRule), ("NoDesk", Value.ref C_NoDesk), ("TooMany", Value.ref C_TooMany), ("MeetError", Value.ref C_MeetError), ("ValueError", Value.type "ValueError"), ("KeyError", Value.type "KeyError"), ("IndexError", Value.type "IndexError"), ("LookupError", Value.type "LookupError"), ("OverflowError", Value.type "OverflowError")] = true)
    (w_NoSet : kitT K C_NoSet "NoSet" [("NoProgram", Value.ref C_NoProgram), ("NoSet", Value.ref C_NoSet), ("NoNames", Value.ref C_NoNames), ("NoText", Value.ref C_NoText), ("NoRun", Value.ref C_NoRun), ("NoStep", Value.ref C_NoStep), ("NoNumber", Value.ref C_NoNumber), ("NoLine", Value.ref C_NoLine), ("NoNet", Value.ref C_NoNet), ("NoMarking", Value.ref C_NoMarking), ("NoTeller", Value.ref C_NoTeller), ("NoRow", Value.ref C_NoRow), ("Unlike", Value.ref C_Unlike), ("NoKind", Value.ref C_NoKind), ("NoBody", Value.ref C_NoBody), ("NoHouse", Value.ref C_NoHouse), ("NoLot", Value.ref C_NoLot), ("NoState", Value.ref C_NoState), ("NoRule", Value.ref C_NoRule), ("NoDesk", Value.ref C_NoDesk), ("TooMany", Value.ref C_TooMany), ("MeetError", Value.ref C_MeetError), ("ValueError", Value.type "ValueError"), ("KeyError", Value.type "KeyError"), ("IndexError", Value.type "IndexError"), ("LookupError", Value.type "LookupError"), ("OverflowError", Value.type "OverflowError")] = true)
    (w_NoNames : kitT K C_NoNames "NoNames" [("NoProgram", Value.ref C_NoProgram), ("NoSet", Value.ref C_NoSet), ("NoNames", Value.ref C_NoNames), ("NoText", Value.ref C_NoText), ("NoRun", Value.ref C_NoRun), ("NoStep", Value.ref C_NoStep), ("NoNumber", Value.ref C_NoNumber), ("NoLine", Value.ref C_NoLine), ("NoNet", Value.ref C_NoNet), ("NoMarking", Value.ref C_NoMarking), ("NoTeller", Value.ref C_NoTeller), ("NoRow", Value.ref C_NoRow), ("Unlike", Value.ref C_Unlike), ("NoKind", Value.ref C_NoKind), ("NoBody", Value.ref C_NoBody), ("NoHouse", Value.ref C_NoHouse), ("NoLot", Value.ref C_NoLot), ("NoState", Value.ref C_NoState), ("NoRule", Value.ref C_NoRule), ("NoDesk", Value.ref C_NoDesk), ("TooMany", Value.ref C_TooMany), ("MeetError", Value.ref C_MeetError), ("ValueError", Value.type "ValueError"), ("KeyError", Value.type "KeyError"), ("IndexError", Value.type "IndexError"), ("LookupError", Value.type "LookupError"), ("OverflowError", Value.type "OverflowError")] = true)
    (w_NoText : kitT K C_NoText "NoText" [("NoProgram", Value.ref C_NoProgram), ("NoSet", Value.ref C_NoSet), ("NoNames", Value.ref C_NoNames), ("NoText", Value.ref C_NoText), ("NoRun", Value.ref C_NoRun), ("NoStep", Value.ref C_NoStep), ("NoNumber", Value.ref C_NoNumber), ("NoLine", Value.ref C_NoLine), ("NoNet", Value.ref C_NoNet), ("NoMarking", Value.ref C_NoMarking), ("NoTeller", Value.ref C_NoTeller), ("NoRow", Value.ref C_NoRow), ("Unlike", Value.ref C_Unlike), ("NoKind", Value.ref C_NoKind), ("NoBody", Value.ref C_NoBody), ("NoHouse", Value.ref C_NoHouse), ("NoLot", Value.ref C_NoLot), ("NoState", Value.ref C_NoState), ("NoRule", Value.ref C_NoRule), ("NoDesk", Value.ref C_NoDesk), ("TooMany", Value.ref C_TooMany), ("MeetError", Value.ref C_MeetError), ("ValueError", Value.type "ValueError"), ("KeyError", Value.type "KeyError"), ("IndexError", Value.type "IndexError"), ("LookupError", Value.type "LookupError"), ("OverflowError", Value.type "OverflowError")] = true)
    (w_NoRun : kitT K C_NoRun "NoRun" [("NoProgram", Value.ref C_NoProgram), ("NoSet", Value.ref C_NoSet), ("NoNames", Value.ref C_NoNames), ("NoText", Value.ref C_NoText), ("NoRun", Value.ref C_NoRun), ("NoStep", Value.ref C_NoStep), ("NoNumber", Value.ref C_NoNumber), ("NoLine", Value.ref C_NoLine), ("NoNet", Value.ref C_NoNet), ("NoMarking", Value.ref C_NoMarking), ("NoTeller", Value.ref C_NoTeller), ("NoRow", Value.ref C_NoRow), ("Unlike", Value.ref C_Unlike), ("NoKind", Value.ref C_NoKind), ("NoBody", Value.ref C_NoBody), ("NoHouse", Value.ref C_NoHouse), ("NoLot", Value.ref C_NoLot), ("NoState", Value.ref C_NoState), ("NoRule", Value.ref C_NoRule), ("NoDesk", Value.ref C_NoDesk), ("TooMany", Value.ref C_TooMany), ("MeetError", Value.ref C_MeetError), ("ValueError", Value.type "ValueError"), ("KeyError", Value.type "KeyError"), ("IndexError", Value.type "IndexError"), ("LookupError", Value.type "LookupError"), ("OverflowError", Value.type "OverflowError")] = true)
    (w_NoStep : kitT K C_NoStep "NoStep" [("NoProgram", Value.ref C_NoProgram), ("NoSet", Value.ref C_NoSet), ("NoNames", Value.ref C_NoNames), ("NoText", Value.ref C_NoText), ("NoRun", Value.ref C_NoRun), ("NoStep", Value.ref C_NoStep), ("NoNumber", Value.ref C_NoNumber), ("NoLine", Value.ref C_NoLine), ("NoNet", Value.ref C_NoNet), ("NoMarking", Value.ref C_NoMarking), ("NoTeller", Value.ref C_NoTeller), ("NoRow", Value.ref C_NoRow), ("Unlike", Value.ref C_Unlike), ("NoKind", Value.ref C_NoKind), ("NoBody", Value.ref C_NoBody), ("NoHouse", Value.ref C_NoHouse), ("NoLot", Value.ref C_NoLot), ("NoState", Value.ref C_NoState), ("NoRule", Value.ref C_NoRule), ("NoDesk", Value.ref C_NoDesk), ("TooMany", Value.ref C_TooMany), ("MeetError", Value.ref C_MeetError), ("ValueError", Value.type "ValueError"), ("KeyError", Value.type "KeyError"), ("IndexError", Value.type "IndexError"), ("LookupError", Value.type "LookupError"), ("OverflowError", Value.type "OverflowError")] = true)
    (w_NoNumber : kitT K C_NoNumber "NoNumber" [("NoProgram", Value.ref C_NoProgram), ("NoSet", Value.ref C_NoSet), ("NoNames", Value.ref C_NoNames), ("NoText", Value.ref C_NoText), ("NoRun", Value.ref C_NoRun), ("NoStep", Value.ref C_NoStep), ("NoNumber", Value.ref C_NoNumber), ("NoLine", Value.ref C_NoLine), ("NoNet", Value.ref C_NoNet), ("NoMarking", Value.ref C_NoMarking), ("NoTeller", Value.ref C_NoTeller), ("NoRow", Value.ref C_NoRow), ("Unlike", Value.ref C_Unlike), ("NoKind", Value.ref C_NoKind), ("NoBody", Value.ref C_NoBody), ("NoHouse", Value.ref C_NoHouse), ("NoLot", Value.ref C_NoLot), ("NoState", Value.ref C_NoState), ("NoRule", Value.ref C_NoRule), ("NoDesk", Value.ref C_NoDesk), ("TooMany", Value.ref C_TooMany), ("MeetError", Value.ref C_MeetError), ("ValueError", Value.type "ValueError"), ("KeyError", Value.type "KeyError"), ("IndexError", Value.type "IndexError"), ("LookupError", Value.type "LookupError"), ("OverflowError", Value.type "OverflowError")] = true)
    (w_NoLine : kitT K C_NoLine "NoLine" [("NoProgram", Value.ref C_NoProgram), ("NoSet", Value.ref C_NoSet), ("NoNames", Value.ref C_NoNames), ("NoText", Value.ref C_NoText), ("NoRun", Value.ref C_NoRun), ("NoStep", Value.ref C_NoStep), ("NoNumber", Value.ref C_NoNumber), ("NoLine", Value.ref C_NoLine), ("NoNet", Value.ref C_NoNet), ("NoMarking", Value.ref C_NoMarking), ("NoTeller", Value.ref C_NoTeller), ("NoRow", Value.ref C_NoRow), ("Unlike", Value.ref C_Unlike), ("NoKind", Value.ref C_NoKind), ("NoBody", Value.ref C_NoBody), ("NoHouse", Value.ref C_NoHouse), ("NoLot", Value.ref C_NoLot), ("NoState", Value.ref C_NoState), ("NoRule", Value.ref C_NoRule), ("NoDesk", Value.ref C_NoDesk), ("TooMany", Value.ref C_TooMany), ("MeetError", Value.ref C_MeetError), ("ValueError", Value.type "ValueError"), ("KeyError", Value.type "KeyError"), ("IndexError", Value.type "IndexError"), ("LookupError", Value.type "LookupError"), ("OverflowError", Value.type "OverflowError")] = true)
    (w_NoNet : kitT K C_NoNet "NoNet" [("NoProgram", Value.ref C_NoProgram), ("NoSet", Value.ref C_NoSet), ("NoNames", Value.ref C_NoNames), ("NoText", Value.ref C_NoText), ("NoRun", Value.ref C_NoRun), ("NoStep", Value.ref C_NoStep), ("NoNumber", Value.ref C_NoNumber), ("NoLine", Value.ref C_NoLine), ("NoNet", Value.ref C_NoNet), ("NoMarking", Value.ref C_NoMarking), ("NoTeller", Value.ref C_NoTeller), ("NoRow", Value.ref C_NoRow), ("Unlike", Value.ref C_Unlike), ("NoKind", Value.ref C_NoKind), ("NoBody", Value.ref C_NoBody), ("NoHouse", Value.ref C_NoHouse), ("NoLot", Value.ref C_NoLot), ("NoState", Value.ref C_NoState), ("NoRule", Value.ref C_NoRule), ("NoDesk", Value.ref C_NoDesk), ("TooMany", Value.ref C_TooMany), ("MeetError", Value.ref C_MeetError), ("ValueError", Value.type "ValueError"), ("KeyError", Value.type "KeyError"), ("IndexError", Value.type "IndexError"), ("LookupError", Value.type "LookupError"), ("OverflowError", Value.type "OverflowError")] = true)
    (w_NoMarking : kitT K C_NoMarking "NoMarking" [("NoProgram", Value.ref C_NoProgram), ("NoSet", Value.ref C_NoSet), ("NoNames", Value.ref C_NoNames), ("NoText", Value.ref C_NoText), ("NoRun", Value.ref C_NoRun), ("NoStep", Value.ref C_NoStep), ("NoNumber", Value.ref C_NoNumber), ("NoLine", Value.ref C_NoLine), ("NoNet", Value.ref C_NoNet), ("NoMarking", Value.ref C_NoMarking), ("NoTeller", Value.ref C_NoTeller), ("NoRow", Value.ref C_NoRow), ("Unlike", Value.ref C_Unlike), ("NoKind", Value.ref C_NoKind), ("NoBody", Value.ref C_NoBody), ("NoHouse", Value.ref C_NoHouse), ("NoLot", Value.ref C_NoLot), ("NoState", Value.ref C_NoState), ("NoRule", Value.ref C_NoRule), ("NoDesk", Value.ref C_NoDesk), ("TooMany", Value.ref C_TooMany), ("MeetError", Value.ref C_MeetError), ("ValueError", Value.type "ValueError"), ("KeyError", Value.type "KeyError"), ("IndexError", Value.type "IndexError"), ("LookupError", Value.type "LookupError"), ("OverflowError", Value.type "OverflowError")] = true)
    (w_NoTeller : kitT K C_NoTeller "NoTeller" [("NoProgram", Value.ref C_NoProgram), ("NoSet", Value.ref C_NoSet), ("NoNames", Value.ref C_NoNames), ("NoText", Value.ref C_NoText), ("NoRun", Value.ref C_NoRun), ("NoStep", Value.ref C_NoStep), ("NoNumber", Value.ref C_NoNumber), ("NoLine", Value.ref C_NoLine), ("NoNet", Value.ref C_NoNet), ("NoMarking", Value.ref C_NoMarking), ("NoTeller", Value.ref C_NoTeller), ("NoRow", Value.ref C_NoRow), ("Unlike", Value.ref C_Unlike), ("NoKind", Value.ref C_NoKind), ("NoBody", Value.ref C_NoBody), ("NoHouse", Value.ref C_NoHouse), ("NoLot", Value.ref C_NoLot), ("NoState", Value.ref C_NoState), ("NoRule", Value.ref C_NoRule), ("NoDesk", Value.ref C_NoDesk), ("TooMany", Value.ref C_TooMany), ("MeetError", Value.ref C_MeetError), ("ValueError", Value.type "ValueError"), ("KeyError", Value.type "KeyError"), ("IndexError", Value.type "IndexError"), ("LookupError", Value.type "LookupError"), ("OverflowError", Value.type "OverflowError")] = true)
    (w_NoRow : kitT K C_NoRow "NoRow" [("NoProgram", Value.ref C_NoProgram), ("NoSet", Value.ref C_NoSet), ("NoNames", Value.ref C_NoNames), ("NoText", Value.ref C_NoText), ("NoRun", Value.ref C_NoRun), ("NoStep", Value.ref C_NoStep), ("NoNumber", Value.ref C_NoNumber), ("NoLine", Value.ref C_NoLine), ("NoNet", Value.ref C_NoNet), ("NoMarking", Value.ref C_NoMarking), ("NoTeller", Value.ref C_NoTeller), ("NoRow", Value.ref C_NoRow), ("Unlike", Value.ref C_Unlike), ("NoKind", Value.ref C_NoKind), ("NoBody", Value.ref C_NoBody), ("NoHouse", Value.ref C_NoHouse), ("NoLot", Value.ref C_NoLot), ("NoState", Value.ref C_NoState), ("NoRule", Value.ref C_NoRule), ("NoDesk", Value.ref C_NoDesk), ("TooMany", Value.ref C_TooMany), ("MeetError", Value.ref C_MeetError), ("ValueError", Value.type "ValueError"), ("KeyError", Value.type "KeyError"), ("IndexError", Value.type "IndexError"), ("LookupError", Value.type "LookupError"), ("OverflowError", Value.type "OverflowError")] = true)
    (w_Unlike : kitT K C_Unlike "Unlike" [("NoProgram", Value.ref C_NoProgram), ("NoSet", Value.ref C_NoSet), ("NoNames", Value.ref C_NoNames), ("NoText", Value.ref C_NoText), ("NoRun", Value.ref C_NoRun), ("NoStep", Value.ref C_NoStep), ("NoNumber", Value.ref C_NoNumber), ("NoLine", Value.ref C_NoLine), ("NoNet", Value.ref C_NoNet), ("NoMarking", Value.ref C_NoMarking), ("NoTeller", Value.ref C_NoTeller), ("NoRow", Value.ref C_NoRow), ("Unlike", Value.ref C_Unlike), ("NoKind", Value.ref C_NoKind), ("NoBody", Value.ref C_NoBody), ("NoHouse", Value.ref C_NoHouse), ("NoLot", Value.ref C_NoLot), ("NoState", Value.ref C_NoState), ("NoRule", Value.ref C_NoRule), ("NoDesk", Value.ref C_NoDesk), ("TooMany", Value.ref C_TooMany), ("MeetError", Value.ref C_MeetError), ("ValueError", Value.type "ValueError"), ("KeyError", Value.type "KeyError"), ("IndexError", Value.type "IndexError"), ("LookupError", Value.type "LookupError"), ("OverflowError", Value.type "OverflowError")] = true)
    (w_NoKind : kitT K C_NoKind "NoKind" [("NoProgram", Value.ref C_NoProgram), ("NoSet", Value.ref C_NoSet), ("NoNames", Value.ref C_NoNames), ("NoText", Value.ref C_NoText), ("NoRun", Value.ref C_NoRun), ("NoStep", Value.ref C_NoStep), ("NoNumber", Value.ref C_NoNumber), ("NoLine", Value.ref C_NoLine), ("NoNet", Value.ref C_NoNet), ("NoMarking", Value.ref C_NoMarking), ("NoTeller", Value.ref C_NoTeller), ("NoRow", Value.ref C_NoRow), ("Unlike", Value.ref C_Unlike), ("NoKind", Value.ref C_NoKind), ("NoBody", Value.ref C_NoBody), ("NoHouse", Value.ref C_NoHouse), ("NoLot", Value.ref C_NoLot), ("NoState", Value.ref C_NoState), ("NoRule", Value.ref C_NoRule), ("NoDesk", Value.ref C_NoDesk), ("TooMany", Value.ref C_TooMany), ("MeetError", Value.ref C_MeetError), ("ValueError", Value.type "ValueError"), ("KeyError", Value.type "KeyError"), ("IndexError", Value.type "IndexError"), ("LookupError", Value.type "LookupError"), ("OverflowError", Value.type "OverflowError")] = true)
    (w_NoBody : kitT K C_NoBody "NoBody" [("NoProgram", Value.ref C_NoProgram), ("NoSet", Value.ref C_NoSet), ("NoNames", Value.ref C_NoNames), ("NoText", Value.ref C_NoText), ("NoRun", Value.ref C_NoRun), ("NoStep", Value.ref C_NoStep), ("NoNumber", Value.ref C_NoNumber), ("NoLine", Value.ref C_NoLine), ("NoNet", Value.ref C_NoNet), ("NoMarking", Value.ref C_NoMarking), ("NoTeller", Value.ref C_NoTeller), ("NoRow", Value.ref C_NoRow), ("Unlike", Value.ref C_Unlike), ("NoKind", Value.ref C_NoKind), ("NoBody", Value.ref C_NoBody), ("NoHouse", Value.ref C_NoHouse), ("NoLot", Value.ref C_NoLot), ("NoState", Value.ref C_NoState), ("NoRule", Value.ref C_NoRule), ("NoDesk", Value.ref C_NoDesk), ("TooMany", Value.ref C_TooMany), ("MeetError", Value.ref C_MeetError), ("ValueError", Value.type "ValueError"), ("KeyError", Value.type "KeyError"), ("IndexError", Value.type "IndexError"), ("LookupError", Value.type "LookupError"), ("OverflowError", Value.type "OverflowError")] = true)
    (w_NoHouse : kitT K C_NoHouse "NoHouse" [("NoProgram", Value.ref C_NoProgram), ("NoSet", Value.ref C_NoSet), ("NoNames", Value.ref C_NoNames), ("NoText", Value.ref C_NoText), ("NoRun", Value.ref C_NoRun), ("NoStep", Value.ref C_NoStep), ("NoNumber", Value.ref C_NoNumber), ("NoLine", Value.ref C_NoLine), ("NoNet", Value.ref C_NoNet), ("NoMarking", Value.ref C_NoMarking), ("NoTeller", Value.ref C_NoTeller), ("NoRow", Value.ref C_NoRow), ("Unlike", Value.ref C_Unlike), ("NoKind", Value.ref C_NoKind), ("NoBody", Value.ref C_NoBody), ("NoHouse", Value.ref C_NoHouse), ("NoLot", Value.ref C_NoLot), ("NoState", Value.ref C_NoState), ("NoRule", Value.ref C_NoRule), ("NoDesk", Value.ref C_NoDesk), ("TooMany", Value.ref C_TooMany), ("MeetError", Value.ref C_MeetError), ("ValueError", Value.type "ValueError"), ("KeyError", Value.type "KeyError"), ("IndexError", Value.type "IndexError"), ("LookupError", Value.type "LookupError"), ("OverflowError", Value.type "OverflowError")] = true)
    (w_NoLot : kitT K C_NoLot "NoLot" [("NoProgram", Value.ref C_NoProgram), ("NoSet", Value.ref C_NoSet), ("NoNames", Value.ref C_NoNames), ("NoText", Value.ref C_NoText), ("NoRun", Value.ref C_NoRun), ("NoStep", Value.ref C_NoStep), ("NoNumber", Value.ref C_NoNumber), ("NoLine", Value.ref C_NoLine), ("NoNet", Value.ref C_NoNet), ("NoMarking", Value.ref C_NoMarking), ("NoTeller", Value.ref C_NoTeller), ("NoRow", Value.ref C_NoRow), ("Unlike", Value.ref C_Unlike), ("NoKind", Value.ref C_NoKind), ("NoBody", Value.ref C_NoBody), ("NoHouse", Value.ref C_NoHouse), ("NoLot", Value.ref C_NoLot), ("NoState", Value.ref C_NoState), ("NoRule", Value.ref C_NoRule), ("NoDesk", Value.ref C_NoDesk), ("TooMany", Value.ref C_TooMany), ("MeetError", Value.ref C_MeetError), ("ValueError", Value.type "ValueError"), ("KeyError", Value.type "KeyError"), ("IndexError", Value.type "IndexError"), ("LookupError", Value.type "LookupError"), ("OverflowError", Value.type "OverflowError")] = true)
    (w_NoState : kitT K C_NoState "NoState" [("NoProgram", Value.ref C_NoProgram), ("NoSet", Value.ref C_NoSet), ("NoNames", Value.ref C_NoNames), ("NoText", Value.ref C_NoText), ("NoRun", Value.ref C_NoRun), ("NoStep", Value.ref C_NoStep), ("NoNumber", Value.ref C_NoNumber), ("NoLine", Value.ref C_NoLine), ("NoNet", Value.ref C_NoNet), ("NoMarking", Value.ref C_NoMarking), ("NoTeller", Value.ref C_NoTeller), ("NoRow", Value.ref C_NoRow), ("Unlike", Value.ref C_Unlike), ("NoKind", Value.ref C_NoKind), ("NoBody", Value.ref C_NoBody), ("NoHouse", Value.ref C_NoHouse), ("NoLot", Value.ref C_NoLot), ("NoState", Value.ref C_NoState), ("NoRule", Value.ref C_NoRule), ("NoDesk", Value.ref C_NoDesk), ("TooMany", Value.ref C_TooMany), ("MeetError", Value.ref C_MeetError), ("ValueError", Value.type "ValueError"), ("KeyError", Value.type "KeyError"), ("IndexError", Value.type "IndexError"), ("LookupError", Value.type "LookupError"), ("OverflowError", Value.type "OverflowError")] = true)
    (w_NoRule : kitT K C_NoRule "NoRule" [("NoProgram", Value.ref C_NoProgram), ("NoSet", Value.ref C_NoSet), ("NoNames", Value.ref C_NoNames), ("NoText", Value.ref C_NoText), ("NoRun", Value.ref C_NoRun), ("NoStep", Value.ref C_NoStep), ("NoNumber", Value.ref C_NoNumber), ("NoLine", Value.ref C_NoLine), ("NoNet", Value.ref C_NoNet), ("NoMarking", Value.ref C_NoMarking), ("NoTeller", Value.ref C_NoTeller), ("NoRow", Value.ref C_NoRow), ("Unlike", Value.ref C_Unlike), ("NoKind", Value.ref C_NoKind), ("NoBody", Value.ref C_NoBody), ("NoHouse", Value.ref C_NoHouse), ("NoLot", Value.ref C_NoLot), ("NoState", Value.ref C_NoState), ("NoRule", Value.ref C_NoRule), ("NoDesk", Value.ref C_NoDesk), ("TooMany", Value.ref C_TooMany), ("MeetError", Value.ref C_MeetError), ("ValueError", Value.type "ValueError"), ("KeyError", Value.type "KeyError"), ("IndexError", Value.type "IndexError"), ("LookupError", Value.type "LookupError"), ("OverflowError", Value.type "OverflowError")] = true)
    (w_NoDesk : kitT K C_NoDesk "NoDesk" [("NoProgram", Value.ref C_NoProgram), ("NoSet", Value.ref C_NoSet), ("NoNames", Value.ref C_NoNames), ("NoText", Value.ref C_NoText), ("NoRun", Value.ref C_NoRun), ("NoStep", Value.ref C_NoStep), ("NoNumber", Value.ref C_NoNumber), ("NoLine", Value.ref C_NoLine), ("NoNet", Value.ref C_NoNet), ("NoMarking", Value.ref C_NoMarking), ("NoTeller", Value.ref C_NoTeller), ("NoRow", Value.ref C_NoRow), ("Unlike", Value.ref C_Unlike), ("NoKind", Value.ref C_NoKind), ("NoBody", Value.ref C_NoBody), ("NoHouse", Value.ref C_NoHouse), ("NoLot", Value.ref C_NoLot), ("NoState", Value.ref C_NoState), ("NoRule", Value.ref C_NoRule), ("NoDesk", Value.ref C_NoDesk), ("TooMany", Value.ref C_TooMany), ("MeetError", Value.ref C_MeetError), ("ValueError", Value.type "ValueError"), ("KeyError", Value.type "KeyError"), ("IndexError", Value.type "IndexError"), ("LookupError", Value.type "LookupError"), ("OverflowError", Value.type "OverflowError")] = true)
    (w_TooMany : kitT K C_TooMany "TooMany" [("NoProgram", Value.ref C_NoProgram), ("NoSet", Value.ref C_NoSet), ("NoNames", Value.ref C_NoNames), ("NoText", Value.ref C_NoText), ("NoRun", Value.ref C_NoRun), ("NoStep", Value.ref C_NoStep), ("NoNumber", Value.ref C_NoNumber), ("NoLine", Value.ref C_NoLine), ("NoNet", Value.ref C_NoNet), ("NoMarking", Value.ref C_NoMarking), ("NoTeller", Value.ref C_NoTeller), ("NoRow", Value.ref C_NoRow), ("Unlike", Value.ref C_Unlike), ("NoKind", Value.ref C_NoKind), ("NoBody", Value.ref C_NoBody), ("NoHouse", Value.ref C_NoHouse), ("NoLot", Value.ref C_NoLot), ("NoState", Value.ref C_NoState), ("NoRule", Value.ref C_NoRule), ("NoDesk", Value.ref C_NoDesk), ("TooMany", Value.ref C_TooMany), ("MeetError", Value.ref C_MeetError), ("ValueError", Value.type "ValueError"), ("KeyError", Value.type "KeyError"), ("IndexError", Value.type "IndexError"), ("LookupError", Value.type "LookupError"), ("OverflowError", Value.type "OverflowError")] = true)
    (m_reads : PySem.W.readsIn K C_MeetError (.type "type") = true)
    (m_spec : PySem.W.specialIn K (.ref C_MeetError) "__getattribute__" = some (some (.builtin "type.__getattribute__")))
    (m_find : PySem.W.findCls K (.ref C_MeetError) (.type "type") "__init__" = some (.val (.builtin "ValueError.__init__")))
    (m_exm : PySem.W.exmOne K (.ref C_NoProgram) (.ref C_NoProgram) = some true)
    : ∃ fd : FuncData, (∀ (s : Shared) (v : Value), BindsTo s fd ⟨[v], []⟩ [("_law_script", v)]) ∧ ∀ base : Heap, K.In base → base.Ns mainGlobals mg → FnG l.prog w K mg base 6 fa fd ["_law_script"] (spLaw K) := by
  have e := hfa.symm.trans (PySem.W.mg_of X G a10)
  cases e
  have z := fun {x : Str} (h : PySem.W.nsIn K mainGlobals x = some none) => PySem.W.mg_none_of X G h
  have X_NoProgram : XC bVE K C_NoProgram := xcB_ok okVE x_NoProgram
  have X_NoSet : XC bVE K C_NoSet := xcB_ok okVE x_NoSet
  have X_NoNames : XC bVE K C_NoNames := xcB_ok okVE x_NoNames
  have X_NoText : XC bVE K C_NoText := xcB_ok okVE x_NoText
  have X_NoRun : XC bVE K C_NoRun := xcB_ok okVE x_NoRun
  have X_NoKind : XC bKE K C_NoKind := xcB_ok okKE x_NoKind
  have X_NoBody : XC bKE K C_NoBody := xcB_ok okKE x_NoBody
  have X_NoHouse : XC bKE K C_NoHouse := xcB_ok okKE x_NoHouse
  have X_NoLot : XC bIE K C_NoLot := xcB_ok okIE x_NoLot
  have X_NoState : XC bIE K C_NoState := xcB_ok okIE x_NoState
  have X_NoRule : XC bIE K C_NoRule := xcB_ok okIE x_NoRule
  have X_TooMany : XC bOE K C_TooMany := xcB_ok okOE x_TooMany
  have y_NoStep : ExcC K C_NoStep := excB_ok e_NoStep
  have y_NoNumber : ExcC K C_NoNumber := excB_ok e_NoNumber
  have y_NoLine : ExcC K C_NoLine := excB_ok e_NoLine
  have y_NoNet : ExcC K C_NoNet := excB_ok e_NoNet
  have y_NoMarking : ExcC K C_NoMarking := excB_ok e_NoMarking
  have y_NoTeller : ExcC K C_NoTeller := excB_ok e_NoTeller
  have y_NoRow : ExcC K C_NoRow := excB_ok e_NoRow
  have y_Unlike : ExcC K C_Unlike := excB_ok e_Unlike
  have y_NoDesk : ExcC K C_NoDesk := excB_ok e_NoDesk
  have y_NoProgram : ExcC K C_NoProgram := X_NoProgram.e
  have y_NoSet : ExcC K C_NoSet := X_NoSet.e
  have y_NoNames : ExcC K C_NoNames := X_NoNames.e
  have y_NoText : ExcC K C_NoText := X_NoText.e
  have y_NoRun : ExcC K C_NoRun := X_NoRun.e
  have y_NoKind : ExcC K C_NoKind := X_NoKind.e
  have y_NoBody : ExcC K C_NoBody := X_NoBody.e
  have y_NoHouse : ExcC K C_NoHouse := X_NoHouse.e
  have y_NoLot : ExcC K C_NoLot := X_NoLot.e
  have y_NoState : ExcC K C_NoState := X_NoState.e
  have y_NoRule : ExcC K C_NoRule := X_NoRule.e
  have y_TooMany : ExcC K C_TooMany := X_TooMany.e
  have all : ∀ (c : Str) (v : Value), (c, v) ∈ ([("NoProgram", Value.ref C_NoProgram), ("NoSet", Value.ref C_NoSet), ("NoNames", Value.ref C_NoNames), ("NoText", Value.ref C_NoText), ("NoRun", Value.ref C_NoRun), ("NoStep", Value.ref C_NoStep), ("NoNumber", Value.ref C_NoNumber), ("NoLine", Value.ref C_NoLine), ("NoNet", Value.ref C_NoNet), ("NoMarking", Value.ref C_NoMarking), ("NoTeller", Value.ref C_NoTeller), ("NoRow", Value.ref C_NoRow), ("Unlike", Value.ref C_Unlike), ("NoKind", Value.ref C_NoKind), ("NoBody", Value.ref C_NoBody), ("NoHouse", Value.ref C_NoHouse), ("NoLot", Value.ref C_NoLot), ("NoState", Value.ref C_NoState), ("NoRule", Value.ref C_NoRule), ("NoDesk", Value.ref C_NoDesk), ("TooMany", Value.ref C_TooMany), ("MeetError", Value.ref C_MeetError), ("ValueError", Value.type "ValueError"), ("KeyError", Value.type "KeyError"), ("IndexError", Value.type "IndexError"), ("LookupError", Value.type "LookupError"), ("OverflowError", Value.type "OverflowError")] : List (Str × Value)) → ClsT K v (tbl c) := fun c v m => clsT_of fun x hx => by
    simp only [names, List.mem_cons, List.not_mem_nil, or_false] at hx
    rcases hx with rfl | rfl | rfl | rfl | rfl | rfl | rfl | rfl | rfl | rfl | rfl | rfl | rfl | rfl | rfl | rfl | rfl | rfl | rfl | rfl | rfl
    · exact ⟨_, n_NoProgram, y_NoProgram, kitT_at w_NoProgram m⟩
    · exact ⟨_, n_NoSet, y_NoSet, kitT_at w_NoSet m⟩
    · exact ⟨_, n_NoNames, y_NoNames, kitT_at w_NoNames m⟩
    · exact ⟨_, n_NoText, y_NoText, kitT_at w_NoText m⟩
    · exact ⟨_, n_NoRun, y_NoRun, kitT_at w_NoRun m⟩
    · exact ⟨_, n_NoStep, y_NoStep, kitT_at w_NoStep m⟩
    · exact ⟨_, n_NoNumber, y_NoNumber, kitT_at w_NoNumber m⟩
    · exact ⟨_, n_NoLine, y_NoLine, kitT_at w_NoLine m⟩
    · exact ⟨_, n_NoNet, y_NoNet, kitT_at w_NoNet m⟩
    · exact ⟨_, n_NoMarking, y_NoMarking, kitT_at w_NoMarking m⟩
    · exact ⟨_, n_NoTeller, y_NoTeller, kitT_at w_NoTeller m⟩
    · exact ⟨_, n_NoRow, y_NoRow, kitT_at w_NoRow m⟩
    · exact ⟨_, n_Unlike, y_Unlike, kitT_at w_Unlike m⟩
    · exact ⟨_, n_NoKind, y_NoKind, kitT_at w_NoKind m⟩
    · exact ⟨_, n_NoBody, y_NoBody, kitT_at w_NoBody m⟩
    · exact ⟨_, n_NoHouse, y_NoHouse, kitT_at w_NoHouse m⟩
    · exact ⟨_, n_NoLot, y_NoLot, kitT_at w_NoLot m⟩
    · exact ⟨_, n_NoState, y_NoState, kitT_at w_NoState m⟩
    · exact ⟨_, n_NoRule, y_NoRule, kitT_at w_NoRule m⟩
    · exact ⟨_, n_NoDesk, y_NoDesk, kitT_at w_NoDesk m⟩
    · exact ⟨_, n_TooMany, y_TooMany, kitT_at w_TooMany m⟩
  have fl : FldT K tbF := fun q hq => by
    simp only [tbF, List.mem_cons, List.not_mem_nil, or_false] at hq
    rcases hq with rfl | rfl | rfl | rfl | rfl | rfl | rfl | rfl | rfl | rfl | rfl | rfl | rfl | rfl
    · exact ⟨_, n_NoProgram, Wn.ExcC.xf y_NoProgram, g_NoProgram_kind⟩
    · exact ⟨_, n_NoProgram, Wn.ExcC.xf y_NoProgram, g_NoProgram_rule⟩
    · exact ⟨_, n_NoProgram, Wn.ExcC.xf y_NoProgram, g_NoProgram_deed⟩
    · exact ⟨_, n_NoSet, Wn.ExcC.xf y_NoSet, g_NoSet_thing⟩
    · exact ⟨_, n_NoNames, Wn.ExcC.xf y_NoNames, g_NoNames_thing⟩
    · exact ⟨_, n_NoText, Wn.ExcC.xf y_NoText, g_NoText_row⟩
    · exact ⟨_, n_NoRun, Wn.ExcC.xf y_NoRun, g_NoRun_number⟩
    · exact ⟨_, n_NoKind, Wn.ExcC.xf y_NoKind, g_NoKind_thing⟩
    · exact ⟨_, n_NoBody, Wn.ExcC.xf y_NoBody, g_NoBody_thing⟩
    · exact ⟨_, n_NoHouse, Wn.ExcC.xf y_NoHouse, g_NoHouse_thing⟩
    · exact ⟨_, n_NoLot, Wn.ExcC.xf y_NoLot, g_NoLot_thing⟩
    · exact ⟨_, n_NoState, Wn.ExcC.xf y_NoState, g_NoState_thing⟩
    · exact ⟨_, n_NoRule, Wn.ExcC.xf y_NoRule, g_NoRule_thing⟩
    · exact ⟨_, n_TooMany, Wn.ExcC.xf y_TooMany, g_TooMany_many⟩
  have T : Fx K mg := ⟨z z_IndexError, z z_KeyError, z z_LookupError, z z_OverflowError, z z_ValueError, z z_enumerate, z z_int, z z_isinstance, z z_len, z z_max, z z_min, z z_range, z z_repr, z z_tuple, ⟨_, PySem.W.mg_of X G v_MOST_KINDS⟩, ⟨_, PySem.W.mg_of X G v_MOST_IN_MAIN⟩, fl, ⟨_, PySem.W.mg_of X G n_NoProgram, all "NoProgram" _ (by simp)⟩, ⟨_, PySem.W.mg_of X G n_NoSet, all "NoSet" _ (by simp)⟩, ⟨_, PySem.W.mg_of X G n_NoNames, all "NoNames" _ (by simp)⟩, ⟨_, PySem.W.mg_of X G n_NoText, all "NoText" _ (by simp)⟩, ⟨_, PySem.W.mg_of X G n_NoRun, all "NoRun" _ (by simp)⟩, ⟨_, PySem.W.mg_of X G n_NoStep, all "NoStep" _ (by simp)⟩, ⟨_, PySem.W.mg_of X G n_NoNumber, all "NoNumber" _ (by simp)⟩, ⟨_, PySem.W.mg_of X G n_NoLine, all "NoLine" _ (by simp)⟩, ⟨_, PySem.W.mg_of X G n_NoNet, all "NoNet" _ (by simp)⟩, ⟨_, PySem.W.mg_of X G n_NoMarking, all "NoMarking" _ (by simp)⟩, ⟨_, PySem.W.mg_of X G n_NoTeller, all "NoTeller" _ (by simp)⟩, ⟨_, PySem.W.mg_of X G n_NoRow, all "NoRow" _ (by simp)⟩, ⟨_, PySem.W.mg_of X G n_Unlike, all "Unlike" _ (by simp)⟩, ⟨_, PySem.W.mg_of X G n_NoKind, all "NoKind" _ (by simp)⟩, ⟨_, PySem.W.mg_of X G n_NoBody, all "NoBody" _ (by simp)⟩, ⟨_, PySem.W.mg_of X G n_NoHouse, all "NoHouse" _ (by simp)⟩, ⟨_, PySem.W.mg_of X G n_NoLot, all "NoLot" _ (by simp)⟩, ⟨_, PySem.W.mg_of X G n_NoState, all "NoState" _ (by simp)⟩, ⟨_, PySem.W.mg_of X G n_NoRule, all "NoRule" _ (by simp)⟩, ⟨_, PySem.W.mg_of X G n_NoDesk, all "NoDesk" _ (by simp)⟩, ⟨_, PySem.W.mg_of X G n_TooMany, all "TooMany" _ (by simp)⟩, ⟨_, PySem.W.mg_of X G n_MeetError, all "MeetError" _ (by simp)⟩, all "ValueError" _ (by simp), all "KeyError" _ (by simp), all "IndexError" _ (by simp), all "LookupError" _ (by simp), all "OverflowError" _ (by simp), ⟨_, PySem.W.mg_of X G n_MeetError, m_reads, m_spec, m_find⟩⟩
  have D_is_tuple_of : Dfn K mg "is_tuple_of" st_is_tuple_of ["thing", "least", "most"] := dfn_mk X G a0 l0 c0 k0 fun _ _ _ _ _ _ us hl => match us, hl with | [_, _, _], _ => rfl
  have D_is_frame : Dfn K mg "is_frame" st_is_frame ["thing"] := dfn_mk X G a1 l1 c1 k1 fun _ _ _ _ _ _ us hl => match us, hl with | [_], _ => rfl
  have D_look_at_program : Dfn K mg "look_at_program" st_look ["thing"] := dfn_mk X G a2 l2 c2 k2 fun _ _ _ _ _ _ us hl => match us, hl with | [_], _ => rfl
  have D__law_pool : Dfn K mg "_law_pool" st__law_pool ["_law_script", "_law_k"] := dfn_mk X G a3 l3 c3 k3 fun _ _ _ _ _ _ us hl => match us, hl with | [_, _], _ => rfl
  have D__law_take : Dfn K mg "_law_take" st__law_take ["_law_pool_here", "_law_size"] := dfn_mk X G a4 l4 c4 k4 fun _ _ _ _ _ _ us hl => match us, hl with | [_, _], _ => rfl
  have D__law_made : Dfn K mg "_law_made" st__law_made ["_law_one"] := dfn_mk X G a5 l5 c5 k5 fun _ _ _ _ _ _ us hl => match us, hl with | [_], _ => rfl
  have D__law_kinds : Dfn K mg "_law_kinds" st__law_kinds ["_law_error"] := dfn_mk X G a6 l6 c6 k6 fun _ _ _ _ _ _ us hl => match us, hl with | [_], _ => rfl
  have D__law_under : Dfn K mg "_law_under" st__law_under ["_law_error"] := dfn_mk X G a7 l7 c7 k7 fun _ _ _ _ _ _ us hl => match us, hl with | [_], _ => rfl
  have D__law_fields_right : Dfn K mg "_law_fields_right" st__law_fields_right ["_law_one", "_law_other"] := dfn_mk X G a8 l8 c8 k8 fun _ _ _ _ _ _ us hl => match us, hl with | [_, _], _ => rfl
  have D__law_refused : Dfn K mg "_law_refused" st__law_refused ["_law_odd_one"] := dfn_mk X G a9 l9 c9 k9 fun _ _ _ _ _ _ us hl => match us, hl with | [_], _ => rfl
  have FL := fun_mk (st := st_law) l10 c10 k10
  refine ⟨PySem.W.fnOf "law" "law" (defArgs st_law) (defBody st_law) (defScope st_law) .none kV10 dc10 pm10 an10 cd10 ct10, fun s v => .of_eq rfl, fun base kb gb => ?_⟩
  have U_NoProgram := fun_mk (x := "__init__") (qual := "NoProgram.__init__") (st := st_NoProgram) l_NoProgram c_NoProgram k_NoProgram
  have B_NoProgram := U_NoProgram.binds (ps := ["self", "kind", "rule", "deed"]) fun _ _ _ _ _ _ us hl => match us, hl with | [_, _, _, _], _ => rfl
  have E_NoProgram : Ec l.prog w K mg base "NoProgram" "NoProgram.__init__" st_NoProgram bVE 1 ["kind", "rule", "deed"] okF := ⟨C_NoProgram, I_NoProgram, _, X_NoProgram, n_NoProgram, PySem.W.mg_of X G n_NoProgram, i_NoProgram, t_NoProgram, U_NoProgram, in_NoProgram T X_NoProgram g_NoProgram_kind g_NoProgram_rule g_NoProgram_deed U_NoProgram, B_NoProgram⟩
  have U_NoSet := fun_mk (x := "__init__") (qual := "NoSet.__init__") (st := st_NoSet) l_NoSet c_NoSet k_NoSet
  have B_NoSet := U_NoSet.binds (ps := ["self", "thing"]) fun _ _ _ _ _ _ us hl => match us, hl with | [_, _], _ => rfl
  have E_NoSet : Ec l.prog w K mg base "NoSet" "NoSet.__init__" st_NoSet bVE 1 ["thing"] okA := ⟨C_NoSet, I_NoSet, _, X_NoSet, n_NoSet, PySem.W.mg_of X G n_NoSet, i_NoSet, t_NoSet, U_NoSet, in_NoSet T X_NoSet g_NoSet_thing U_NoSet, B_NoSet⟩
  have U_NoNames := fun_mk (x := "__init__") (qual := "NoNames.__init__") (st := st_NoNames) l_NoNames c_NoNames k_NoNames
  have B_NoNames := U_NoNames.binds (ps := ["self", "thing"]) fun _ _ _ _ _ _ us hl => match us, hl with | [_, _], _ => rfl
  have E_NoNames : Ec l.prog w K mg base "NoNames" "NoNames.__init__" st_NoNames bVE 1 ["thing"] okA := ⟨C_NoNames, I_NoNames, _, X_NoNames, n_NoNames, PySem.W.mg_of X G n_NoNames, i_NoNames, t_NoNames, U_NoNames, in_NoNames T X_NoNames g_NoNames_thing U_NoNames, B_NoNames⟩
  have U_NoText := fun_mk (x := "__init__") (qual := "NoText.__init__") (st := st_NoText) l_NoText c_NoText k_NoText
  have B_NoText := U_NoText.binds (ps := ["self", "row"]) fun _ _ _ _ _ _ us hl => match us, hl with | [_, _], _ => rfl
  have E_NoText : Ec l.prog w K mg base "NoText" "NoText.__init__" st_NoText bVE 1 ["row"] okF := ⟨C_NoText, I_NoText, _, X_NoText, n_NoText, PySem.W.mg_of X G n_NoText, i_NoText, t_NoText, U_NoText, in_NoText T X_NoText g_NoText_row U_NoText, B_NoText⟩
  have U_NoRun := fun_mk (x := "__init__") (qual := "NoRun.__init__") (st := st_NoRun) l_NoRun c_NoRun k_NoRun
  have B_NoRun := U_NoRun.binds (ps := ["self", "number"]) fun _ _ _ _ _ _ us hl => match us, hl with | [_, _], _ => rfl
  have E_NoRun : Ec l.prog w K mg base "NoRun" "NoRun.__init__" st_NoRun bVE 1 ["number"] okF := ⟨C_NoRun, I_NoRun, _, X_NoRun, n_NoRun, PySem.W.mg_of X G n_NoRun, i_NoRun, t_NoRun, U_NoRun, in_NoRun T X_NoRun g_NoRun_number U_NoRun, B_NoRun⟩
  have U_NoKind := fun_mk (x := "__init__") (qual := "NoKind.__init__") (st := st_NoKind) l_NoKind c_NoKind k_NoKind
  have B_NoKind := U_NoKind.binds (ps := ["self", "thing"]) fun _ _ _ _ _ _ us hl => match us, hl with | [_, _], _ => rfl
  have E_NoKind : Ec l.prog w K mg base "NoKind" "NoKind.__init__" st_NoKind bKE 1 ["thing"] okA := ⟨C_NoKind, I_NoKind, _, X_NoKind, n_NoKind, PySem.W.mg_of X G n_NoKind, i_NoKind, t_NoKind, U_NoKind, in_NoKind T X_NoKind g_NoKind_thing U_NoKind, B_NoKind⟩
  have U_NoBody := fun_mk (x := "__init__") (qual := "NoBody.__init__") (st := st_NoBody) l_NoBody c_NoBody k_NoBody
  have B_NoBody := U_NoBody.binds (ps := ["self", "thing"]) fun _ _ _ _ _ _ us hl => match us, hl with | [_, _], _ => rfl
  have E_NoBody : Ec l.prog w K mg base "NoBody" "NoBody.__init__" st_NoBody bKE 1 ["thing"] okA := ⟨C_NoBody, I_NoBody, _, X_NoBody, n_NoBody, PySem.W.mg_of X G n_NoBody, i_NoBody, t_NoBody, U_NoBody, in_NoBody T X_NoBody g_NoBody_thing U_NoBody, B_NoBody⟩
  have U_NoHouse := fun_mk (x := "__init__") (qual := "NoHouse.__init__") (st := st_NoHouse) l_NoHouse c_NoHouse k_NoHouse
  have B_NoHouse := U_NoHouse.binds (ps := ["self", "thing"]) fun _ _ _ _ _ _ us hl => match us, hl with | [_, _], _ => rfl
  have E_NoHouse : Ec l.prog w K mg base "NoHouse" "NoHouse.__init__" st_NoHouse bKE 1 ["thing"] okA := ⟨C_NoHouse, I_NoHouse, _, X_NoHouse, n_NoHouse, PySem.W.mg_of X G n_NoHouse, i_NoHouse, t_NoHouse, U_NoHouse, in_NoHouse T X_NoHouse g_NoHouse_thing U_NoHouse, B_NoHouse⟩
  have U_NoLot := fun_mk (x := "__init__") (qual := "NoLot.__init__") (st := st_NoLot) l_NoLot c_NoLot k_NoLot
  have B_NoLot := U_NoLot.binds (ps := ["self", "thing"]) fun _ _ _ _ _ _ us hl => match us, hl with | [_, _], _ => rfl
  have E_NoLot : Ec l.prog w K mg base "NoLot" "NoLot.__init__" st_NoLot bIE 1 ["thing"] okA := ⟨C_NoLot, I_NoLot, _, X_NoLot, n_NoLot, PySem.W.mg_of X G n_NoLot, i_NoLot, t_NoLot, U_NoLot, in_NoLot T X_NoLot g_NoLot_thing U_NoLot, B_NoLot⟩
  have U_NoState := fun_mk (x := "__init__") (qual := "NoState.__init__") (st := st_NoState) l_NoState c_NoState k_NoState
  have B_NoState := U_NoState.binds (ps := ["self", "thing"]) fun _ _ _ _ _ _ us hl => match us, hl with | [_, _], _ => rfl
  have E_NoState : Ec l.prog w K mg base "NoState" "NoState.__init__" st_NoState bIE 1 ["thing"] okA := ⟨C_NoState, I_NoState, _, X_NoState, n_NoState, PySem.W.mg_of X G n_NoState, i_NoState, t_NoState, U_NoState, in_NoState T X_NoState g_NoState_thing U_NoState, B_NoState⟩
  have U_NoRule := fun_mk (x := "__init__") (qual := "NoRule.__init__") (st := st_NoRule) l_NoRule c_NoRule k_NoRule
  have B_NoRule := U_NoRule.binds (ps := ["self", "thing"]) fun _ _ _ _ _ _ us hl => match us, hl with | [_, _], _ => rfl
  have E_NoRule : Ec l.prog w K mg base "NoRule" "NoRule.__init__" st_NoRule bIE 1 ["thing"] okA := ⟨C_NoRule, I_NoRule, _, X_NoRule, n_NoRule, PySem.W.mg_of X G n_NoRule, i_NoRule, t_NoRule, U_NoRule, in_NoRule T X_NoRule g_NoRule_thing U_NoRule, B_NoRule⟩
  have U_TooMany := fun_mk (x := "__init__") (qual := "TooMany.__init__") (st := st_TooMany) l_TooMany c_TooMany k_TooMany
  have B_TooMany := U_TooMany.binds (ps := ["self", "many"]) fun _ _ _ _ _ _ us hl => match us, hl with | [_, _], _ => rfl
  have E_TooMany : Ec l.prog w K mg base "TooMany" "TooMany.__init__" st_TooMany bOE 1 ["many"] okF := ⟨C_TooMany, I_TooMany, _, X_TooMany, n_TooMany, PySem.W.mg_of X G n_TooMany, i_TooMany, t_TooMany, U_TooMany, in_TooMany T X_TooMany g_TooMany_many U_TooMany, B_TooMany⟩
  have E_NoStep : Ez K mg "NoStep" := ⟨C_NoStep, _, _, _, _, F.excBase_ValueError, q_NoStep, n_NoStep, PySem.W.mg_of X G n_NoStep, p_NoStep⟩
  have E_NoNumber : Ez K mg "NoNumber" := ⟨C_NoNumber, _, _, _, _, F.excBase_ValueError, q_NoNumber, n_NoNumber, PySem.W.mg_of X G n_NoNumber, p_NoNumber⟩
  have E_NoLine : Ez K mg "NoLine" := ⟨C_NoLine, _, _, _, _, F.excBase_ValueError, q_NoLine, n_NoLine, PySem.W.mg_of X G n_NoLine, p_NoLine⟩
  have E_NoNet : Ez K mg "NoNet" := ⟨C_NoNet, _, _, _, _, F.excBase_ValueError, q_NoNet, n_NoNet, PySem.W.mg_of X G n_NoNet, p_NoNet⟩
  have E_NoMarking : Ez K mg "NoMarking" := ⟨C_NoMarking, _, _, _, _, F.excBase_ValueError, q_NoMarking, n_NoMarking, PySem.W.mg_of X G n_NoMarking, p_NoMarking⟩
  have E_NoTeller : Ez K mg "NoTeller" := ⟨C_NoTeller, _, _, _, _, F.excBase_ValueError, q_NoTeller, n_NoTeller, PySem.W.mg_of X G n_NoTeller, p_NoTeller⟩
  have E_NoRow : Ez K mg "NoRow" := ⟨C_NoRow, _, _, _, _, F.excBase_ValueError, q_NoRow, n_NoRow, PySem.W.mg_of X G n_NoRow, p_NoRow⟩
  have E_Unlike : Ez K mg "Unlike" := ⟨C_Unlike, _, _, _, _, F.excBase_ValueError, q_Unlike, n_Unlike, PySem.W.mg_of X G n_Unlike, p_Unlike⟩
  have E_NoDesk : Ez K mg "NoDesk" := ⟨C_NoDesk, _, _, _, _, F.excBase_LookupError, q_NoDesk, n_NoDesk, PySem.W.mg_of X G n_NoDesk, p_NoDesk⟩
  have C_is_tuple_of := ok_is_tuple_of (P := l.prog) (w := w) (base := base) T D_is_tuple_of
  have C_is_frame := ok_is_frame (P := l.prog) (w := w) (base := base) T D_is_frame C_is_tuple_of
  have C__law_made := ok__law_made (P := l.prog) (w := w) (base := base) T D__law_made E_NoBody E_NoDesk E_NoHouse E_NoKind E_NoLine E_NoLot E_NoMarking E_NoNames E_NoNet E_NoNumber E_NoProgram E_NoRow E_NoRule E_NoRun E_NoSet E_NoState E_NoStep E_NoTeller E_NoText E_TooMany E_Unlike
  have C__law_kinds := ok__law_kinds (P := l.prog) (w := w) (base := base) T D__law_kinds
  have C__law_under := ok__law_under (P := l.prog) (w := w) (base := base) T D__law_under
  have C__law_fields_right := ok__law_fields_right (P := l.prog) (w := w) (base := base) T D__law_fields_right C__law_made E_NoLot E_NoProgram E_NoRun E_NoText
  obtain ⟨q1, p1, U1, g1, b1⟩ := D__law_pool.ex
  obtain ⟨q2, p2, U2, g2, b2⟩ := D__law_take.ex
  obtain ⟨q3, p3, U3, g3, b3⟩ := D_look_at_program.ex
  have mP := PySem.W.mg_of X G n_NoProgram
  have GL := ok_look (P := l.prog) (w := w) (base := base) T X_NoProgram mP i_NoProgram t_NoProgram (in_NoProgram0 T X_NoProgram g_NoProgram_kind g_NoProgram_rule g_NoProgram_deed U_NoProgram) B_NoProgram C_is_frame U3
  have C__law_refused := ok__law_refused (P := l.prog) (w := w) (base := base) T (Wn.ExcC.xf y_NoProgram) g_NoProgram_kind g_NoProgram_rule g_NoProgram_deed mP m_exm GL g3 U3.kp b3 D__law_refused
  exact ok_law T C__law_fields_right C__law_kinds C__law_made C__law_refused C__law_under ⟨q1, p1, ok_pool T U1, g1, U1.kp, b1⟩ ⟨q2, p2, ok_take U2, g2, U2.kp, b2⟩ FL
end W4

open PySem PySem.W PyProof.Rows
set_option maxHeartbeats 0 in
theorem PySem.Challenge.cw_waitedmeets_k04_refusals_apart_holds : PySem.Challenge.rw_waitedmeets_k04_refusals_apart.Holds := by
  w_on; o_law; k_head; (case hw => w_witness2)
  k_fill
  refine Wn.walk_G (l := PySem.Challenge.rw_waitedmeets_k04_refusals_apart) (n := 63) (k := 6) (x := "_law_script") (sp := fun w => W4.spLaw _) rfl (by decide) rfl ⟨rfl, by decide, by decide⟩ (by decide +kernel) (fun w h Y => PySem.W.kIn_of Y) (fun p => by kernel_rfl) ?F (fun _ _ a ns hl sy hS => ⟨sy, a, ns, rfl, hS, hl, fun _ => rfl⟩)
  case F =>
    intro w mg fa h KX G hmg
    refine' W4.all_mk KX G hmg ?a0 ?l0 ?c0 ?k0 ?a1 ?l1 ?c1 ?k1 ?a2 ?l2 ?c2 ?k2 ?a3 ?l3 ?c3 ?k3 ?a4 ?l4 ?c4 ?k4 ?a5 ?l5 ?c5 ?k5 ?a6 ?l6 ?c6 ?k6 ?a7 ?l7 ?c7 ?k7 ?a8 ?l8 ?c8 ?k8 ?a9 ?l9 ?c9 ?k9 ?a10 ?l10 ?c10 ?k10 ?z_IndexError ?z_KeyError ?z_LookupError ?z_OverflowError ?z_ValueError ?z_enumerate ?z_int ?z_isinstance ?z_len ?z_max ?z_min ?z_range ?z_repr ?z_tuple ?v_MOST_KINDS ?v_MOST_IN_MAIN ?n_NoProgram ?n_NoSet ?n_NoNames ?n_NoText ?n_NoRun ?n_NoStep ?n_NoNumber ?n_NoLine ?n_NoNet ?n_NoMarking ?n_NoTeller ?n_NoRow ?n_Unlike ?n_NoKind ?n_NoBody ?n_NoHouse ?n_NoLot ?n_NoState ?n_NoRule ?n_NoDesk ?n_TooMany ?n_MeetError ?x_NoProgram ?i_NoProgram ?t_NoProgram ?l_NoProgram ?c_NoProgram ?k_NoProgram ?g_NoProgram_kind ?g_NoProgram_rule ?g_NoProgram_deed ?x_NoSet ?i_NoSet ?t_NoSet ?l_NoSet ?c_NoSet ?k_NoSet ?g_NoSet_thing ?x_NoNames ?i_NoNames ?t_NoNames ?l_NoNames ?c_NoNames ?k_NoNames ?g_NoNames_thing ?x_NoText ?i_NoText ?t_NoText ?l_NoText ?c_NoText ?k_NoText ?g_NoText_row ?x_NoRun ?i_NoRun ?t_NoRun ?l_NoRun ?c_NoRun ?k_NoRun ?g_NoRun_number ?x_NoKind ?i_NoKind ?t_NoKind ?l_NoKind ?c_NoKind ?k_NoKind ?g_NoKind_thing ?x_NoBody ?i_NoBody ?t_NoBody ?l_NoBody ?c_NoBody ?k_NoBody ?g_NoBody_thing ?x_NoHouse ?i_NoHouse ?t_NoHouse ?l_NoHouse ?c_NoHouse ?k_NoHouse ?g_NoHouse_thing ?x_NoLot ?i_NoLot ?t_NoLot ?l_NoLot ?c_NoLot ?k_NoLot ?g_NoLot_thing ?x_NoState ?i_NoState ?t_NoState ?l_NoState ?c_NoState ?k_NoState ?g_NoState_thing ?x_NoRule ?i_NoRule ?t_NoRule ?l_NoRule ?c_NoRule ?k_NoRule ?g_NoRule_thing ?x_TooMany ?i_TooMany ?t_TooMany ?l_TooMany ?c_TooMany ?k_TooMany ?g_TooMany_many ?q_NoStep ?p_NoStep ?e_NoStep ?q_NoNumber ?p_NoNumber ?e_NoNumber ?q_NoLine ?p_NoLine ?e_NoLine ?q_NoNet ?p_NoNet ?e_NoNet ?q_NoMarking ?p_NoMarking ?e_NoMarking ?q_NoTeller ?p_NoTeller ?e_NoTeller ?q_NoRow ?p_NoRow ?e_NoRow ?q_Unlike ?p_Unlike ?e_Unlike ?q_NoDesk ?p_NoDesk ?e_NoDesk ?w_NoProgram ?w_NoSet ?w_NoNames ?w_NoText ?w_NoRun ?w_NoStep ?w_NoNumber ?w_NoLine ?w_NoNet ?w_NoMarking ?w_NoTeller ?w_NoRow ?w_Unlike ?w_NoKind ?w_NoBody ?w_NoHouse ?w_NoLot ?w_NoState ?w_NoRule ?w_NoDesk ?w_TooMany ?m_reads ?m_spec ?m_find ?m_exm
    (case a0 => k_is)
    (case l0 => k_is)
    (case c0 => k_is)
    (case k0 => k_is)
    (case a1 => k_is)
    (case l1 => k_is)
    (case c1 => k_is)
    (case k1 => k_is)
    (case a2 => k_is)
    (case l2 => k_is)
    (case c2 => k_is)
    (case k2 => k_is)
    (case a3 => k_is)
    (case l3 => k_is)
    (case c3 => k_is)
    (case k3 => k_is)
    (case a4 => k_is)
    (case l4 => k_is)
    (case c4 => k_is)
    (case k4 => k_is)
    (case a5 => k_is)
    (case l5 => k_is)
    (case c5 => k_is)
    (case k5 => k_is)
    (case a6 => k_is)
    (case l6 => k_is)
    (case c6 => k_is)
    (case k6 => k_is)
    (case a7 => k_is)
    (case l7 => k_is)
    (case c7 => k_is)
    (case k7 => k_is)
    (case a8 => k_is)
    (case l8 => k_is)
    (case c8 => k_is)
    (case k8 => k_is)
    (case a9 => k_is)
    (case l9 => k_is)
    (case c9 => k_is)
    (case k9 => k_is)
    (case a10 => k_is)
    (case l10 => k_is)
    (case c10 => k_is)
    (case k10 => k_is)
    (case z_IndexError => k_is)
    (case z_KeyError => k_is)
    (case z_LookupError => k_is)
    (case z_OverflowError => k_is)
    (case z_ValueError => k_is)
    (case z_enumerate => k_is)
    (case z_int => k_is)
    (case z_isinstance => k_is)
    (case z_len => k_is)
    (case z_max => k_is)
    (case z_min => k_is)
    (case z_range => k_is)
    (case z_repr => k_is)
    (case z_tuple => k_is)
    (case v_MOST_KINDS => k_is)
    (case v_MOST_IN_MAIN => k_is)
    (case n_NoProgram => k_is)
    (case n_NoSet => k_is)
    (case n_NoNames => k_is)
    (case n_NoText => k_is)
    (case n_NoRun => k_is)
    (case n_NoStep => k_is)
    (case n_NoNumber => k_is)
    (case n_NoLine => k_is)
    (case n_NoNet => k_is)
    (case n_NoMarking => k_is)
    (case n_NoTeller => k_is)
    (case n_NoRow => k_is)
    (case n_Unlike => k_is)
    (case n_NoKind => k_is)
    (case n_NoBody => k_is)
    (case n_NoHouse => k_is)
    (case n_NoLot => k_is)
    (case n_NoState => k_is)
    (case n_NoRule => k_is)
    (case n_NoDesk => k_is)
    (case n_TooMany => k_is)
    (case n_MeetError => k_is)
    (case x_NoProgram => kernel_rfl)
    (case i_NoProgram => k_is)
    (case t_NoProgram => k_is)
    (case l_NoProgram => k_is)
    (case c_NoProgram => k_is)
    (case k_NoProgram => k_is)
    (case g_NoProgram_kind => k_is)
    (case g_NoProgram_rule => k_is)
    (case g_NoProgram_deed => k_is)
    (case x_NoSet => kernel_rfl)
    (case i_NoSet => k_is)
    (case t_NoSet => k_is)
    (case l_NoSet => k_is)
    (case c_NoSet => k_is)
    (case k_NoSet => k_is)
    (case g_NoSet_thing => k_is)
    (case x_NoNames => kernel_rfl)
    (case i_NoNames => k_is)
    (case t_NoNames => k_is)
    (case l_NoNames => k_is)
    (case c_NoNames => k_is)
    (case k_NoNames => k_is)
    (case g_NoNames_thing => k_is)
    (case x_NoText => kernel_rfl)
    (case i_NoText => k_is)
    (case t_NoText => k_is)
    (case l_NoText => k_is)
    (case c_NoText => k_is)
    (case k_NoText => k_is)
    (case g_NoText_row => k_is)
    (case x_NoRun => kernel_rfl)
    (case i_NoRun => k_is)
    (case t_NoRun => k_is)
    (case l_NoRun => k_is)
    (case c_NoRun => k_is)
    (case k_NoRun => k_is)
    (case g_NoRun_number => k_is)
    (case x_NoKind => kernel_rfl)
    (case i_NoKind => k_is)
    (case t_NoKind => k_is)
    (case l_NoKind => k_is)
    (case c_NoKind => k_is)
    (case k_NoKind => k_is)
    (case g_NoKind_thing => k_is)
    (case x_NoBody => kernel_rfl)
    (case i_NoBody => k_is)
    (case t_NoBody => k_is)
    (case l_NoBody => k_is)
    (case c_NoBody => k_is)
    (case k_NoBody => k_is)
    (case g_NoBody_thing => k_is)
    (case x_NoHouse => kernel_rfl)
    (case i_NoHouse => k_is)
    (case t_NoHouse => k_is)
    (case l_NoHouse => k_is)
    (case c_NoHouse => k_is)
    (case k_NoHouse => k_is)
    (case g_NoHouse_thing => k_is)
    (case x_NoLot => kernel_rfl)
    (case i_NoLot => k_is)
    (case t_NoLot => k_is)
    (case l_NoLot => k_is)
    (case c_NoLot => k_is)
    (case k_NoLot => k_is)
    (case g_NoLot_thing => k_is)
    (case x_NoState => kernel_rfl)
    (case i_NoState => k_is)
    (case t_NoState => k_is)
    (case l_NoState => k_is)
    (case c_NoState => k_is)
    (case k_NoState => k_is)
    (case g_NoState_thing => k_is)
    (case x_NoRule => kernel_rfl)
    (case i_NoRule => k_is)
    (case t_NoRule => k_is)
    (case l_NoRule => k_is)
    (case c_NoRule => k_is)
    (case k_NoRule => k_is)
    (case g_NoRule_thing => k_is)
    (case x_TooMany => kernel_rfl)
    (case i_TooMany => k_is)
    (case t_TooMany => k_is)
    (case l_TooMany => k_is)
    (case c_TooMany => k_is)
    (case k_TooMany => k_is)
    (case g_TooMany_many => k_is)
    (case q_NoStep => kernel_rfl)
    (case p_NoStep => k_is)
    (case e_NoStep => kernel_rfl)
    (case q_NoNumber => kernel_rfl)
    (case p_NoNumber => k_is)
    (case e_NoNumber => kernel_rfl)
    (case q_NoLine => kernel_rfl)
    (case p_NoLine => k_is)
    (case e_NoLine => kernel_rfl)
    (case q_NoNet => kernel_rfl)
    (case p_NoNet => k_is)
    (case e_NoNet => kernel_rfl)
    (case q_NoMarking => kernel_rfl)
    (case p_NoMarking => k_is)
    (case e_NoMarking => kernel_rfl)
    (case q_NoTeller => kernel_rfl)
    (case p_NoTeller => k_is)
    (case e_NoTeller => kernel_rfl)
    (case q_NoRow => kernel_rfl)
    (case p_NoRow => k_is)
    (case e_NoRow => kernel_rfl)
    (case q_Unlike => kernel_rfl)
    (case p_Unlike => k_is)
    (case e_Unlike => kernel_rfl)
    (case q_NoDesk => kernel_rfl)
    (case p_NoDesk => k_is)
    (case e_NoDesk => kernel_rfl)
    (case w_NoProgram => kernel_rfl)
    (case w_NoSet => kernel_rfl)
    (case w_NoNames => kernel_rfl)
    (case w_NoText => kernel_rfl)
    (case w_NoRun => kernel_rfl)
    (case w_NoStep => kernel_rfl)
    (case w_NoNumber => kernel_rfl)
    (case w_NoLine => kernel_rfl)
    (case w_NoNet => kernel_rfl)
    (case w_NoMarking => kernel_rfl)
    (case w_NoTeller => kernel_rfl)
    (case w_NoRow => kernel_rfl)
    (case w_Unlike => kernel_rfl)
    (case w_NoKind => kernel_rfl)
    (case w_NoBody => kernel_rfl)
    (case w_NoHouse => kernel_rfl)
    (case w_NoLot => kernel_rfl)
    (case w_NoState => kernel_rfl)
    (case w_NoRule => kernel_rfl)
    (case w_NoDesk => kernel_rfl)
    (case w_TooMany => kernel_rfl)
    (case m_reads => k_is)
    (case m_spec => k_is)
    (case m_find => k_is)
    (case m_exm => kernel_rfl)
