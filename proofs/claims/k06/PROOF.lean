import PyProof.Rows.All
import Wide.All
import OpenK.AllK
import Wide.FinOn
import HandS.Base
import HandS.Call
import HandS.List
import HandS.Comp
import HandS.Words
import KE.KeyNested
import HandS.IsInst
import HandS.TupAny
import HandS.Text
import PyProof.ReprRoads
import KE.KDictDisplayH
import HandS.Dict
import HandS.Style
import HandS.Conv
import HandS.Defaults
import HandS.MakeKwOnly
import HandS.NoneIn
import KE.GoesEnum
import HandS.Iter
import HandS.TupMul
import HandS.Deep
import HandS.Ends
import PySem.Challenge.RW_lateposts_k06_whole_hearing
set_option Elab.async false
set_option linter.all false
set_option maxRecDepth 100000
set_option maxHeartbeats 4000000
/-! Data without addresses, a store of the few things that change, and how they stand in the layer's heap. -/
namespace Pv
open PySem L2

/-- data: tuples and lists that stay as they are, the dict that stays empty, and places of the store -/
inductive D where
  | non | bl (b : Bool) | int (i : Int) | str (x : Str) | tup (xs : List D) | lst (xs : List D) | emp | loc (i : Nat)
  deriving Inhabited
mutual
/-- data as a key, up to == -/
def D.nk : D → Option NestedKey
  | .non => some .none
  | .bl b => some (.num (if b = true then 1 else 0))
  | .int i => some (.num i)
  | .tup xs => (D.nks xs).map .tup
  | .str _ => none
  | .lst _ => none
  | .emp => none
  | .loc _ => none
def D.nks : List D → Option (List NestedKey)
  | [] => some []
  | x :: xs => match x.nk with
    | none => none
    | some k => (D.nks xs).map fun ks => k :: ks
end
/-- a tuple that is a key of a dict -/
def nkey : D → Option NestedKey
  | .tup xs => match (D.tup xs).nk with
    | some k => if k.depth ≤ 8 then some k else none
    | none => none
  | _ => none
mutual
/-- the hash of a key without texts -/
def hashN : NestedKey → Int
  | .none => reduceHash 0xFCA86420
  | .num i => hashInt i
  | .text _ => 0
  | .tup ks => reduceHash (Builtin.Tuple.tupleHashOf (hashNs ks))
def hashNs : List NestedKey → List Int
  | [] => []
  | k :: ks => hashN k :: hashNs ks
end
mutual
theorem hash_nk {w : World} : ∀ {d : D} {k : NestedKey}, d.nk = some k → NestedKey.hash w k = hashN k
  | .non, _, h => by cases h; rfl
  | .bl _, _, h => by cases h; rfl
  | .int _, _, h => by cases h; rfl
  | .tup xs, _, h => by
    simp only [D.nk, Option.map_eq_some_iff] at h
    obtain ⟨ks, hk, rfl⟩ := h
    simp only [NestedKey.hash, hashN, hash_nks hk]
  | .str _, _, h => by cases h
  | .lst _, _, h => by cases h
  | .emp, _, h => by cases h
  | .loc _, _, h => by cases h
theorem hash_nks {w : World} : ∀ {xs : List D} {ks : List NestedKey}, D.nks xs = some ks → NestedKey.hashes w ks = hashNs ks
  | [], _, h => by cases h; rfl
  | x :: xs, _, h => by
    simp only [D.nks] at h
    split at h
    · cases h
    · rename_i k hk
      rw [Option.map_eq_some_iff] at h
      obtain ⟨ks, hks, rfl⟩ := h
      simp only [NestedKey.hashes, hashNs, hash_nk hk, hash_nks hks]
end
theorem nkey_nk {d : D} {k : NestedKey} (h : nkey d = some k) : (∃ xs, d = .tup xs) ∧ d.nk = some k ∧ k.depth ≤ 8 := by
  unfold nkey at h
  split at h
  · split at h
    · split at h
      · cases h
        exact ⟨⟨_, rfl⟩, by assumption, by assumption⟩
      · cases h
    · cases h
  · cases h
/-- what changes -/
inductive Ob where
  | lst (xs : List D)
  | dct (kvs : List (D × D))
  | gone
abbrev Store := List Ob
abbrev Env := List (Option D)

/-- where the store's places lie, how many there are, the heap -/
structure Wd where
  φ : Nat → Addr
  n : Nat
  H : Hp
  /-- what a comprehension is making just now -/
  hid : Addr → Prop
def own (w : Wd) (a : Addr) : Prop := ∃ i, i < w.n ∧ w.φ i = a
def bus (w : Wd) (a : Addr) : Prop := own w a ∨ w.hid a
def TupAt (K : PySem.W.Frag) (w : Wd) (a : Addr) (vs : List V) : Prop := (Rd w.H a (.tup vs) ∧ ¬ bus w a) ∨ SqT K (fun _ => none) a vs
def LstAt (K : PySem.W.Frag) (w : Wd) (a : Addr) (vs : List V) : Prop := (Rd w.H a (.lst vs) ∧ ¬ bus w a) ∨ SqL K (fun _ => none) a vs
mutual
inductive RD (K : PySem.W.Frag) (w : Wd) : D → V → Prop
  | non : RD K w .non .non
  | bl (b : Bool) : RD K w (.bl b) (.bl b)
  | int (i : Int) : RD K w (.int i) (.int i)
  | str (x : Str) : RD K w (.str x) (.str x)
  | tup {a : Addr} {vs : List V} {ds : List D} : TupAt K w a vs → ds.length ≤ sizeLine → RDs K w ds vs → RD K w (.tup ds) (.ref a)
  | lst {a : Addr} {vs : List V} {ds : List D} : LstAt K w a vs → ds.length ≤ sizeLine → RDs K w ds vs → RD K w (.lst ds) (.ref a)
  | emp {a : Addr} : w.H a = some (.dK []) → ¬ bus w a → RD K w .emp (.ref a)
  | loc {i : Nat} : i < w.n → RD K w (.loc i) (.ref (w.φ i))
inductive RDs (K : PySem.W.Frag) (w : Wd) : List D → List V → Prop
  | nil : RDs K w [] []
  | cons {d : D} {v : V} {ds : List D} {vs : List V} : RD K w d v → RDs K w ds vs → RDs K w (d :: ds) (v :: vs)
end
/-- one world behind another: what is not the store's own stands as it stood -/
structure Step (w w' : Wd) : Prop where
  n : w.n ≤ w'.n
  φ : ∀ i, i < w.n → w'.φ i = w.φ i
  st : ∀ a o, w.H a = some o → ¬ bus w a → w'.H a = some o ∧ ¬ bus w' a
  hd : ∀ a, w.hid a → w'.hid a
  hs : ∀ a, w.hid a → w'.H a = w.H a
/-- the entries of a dict by data: each key's tuple and what stands with it -/
inductive RKs (K : PySem.W.Frag) (w : Wd) : List (D × D) → List (NestedKey × Addr × V) → Prop
  | nil : RKs K w [] []
  | cons {d e : D} {n : NestedKey} {a : Addr} {v : V} {l : List (D × D)} {m : List (NestedKey × Addr × V)} : nkey d = some n → RD K w d (.ref a) → RD K w e v → RKs K w l m → RKs K w ((d, e) :: l) ((n, a, v) :: m)
/-- a dict whose keys are tuples, as the layer holds it: its object alone -/
def dctO (a : Addr) (xs : List (NestedKey × Addr × V)) : HO := .ext fun h => (a == sysModules) = false ∧ (xs.map (·.1)).Nodup ∧ xs.length ≤ sizeLine ∧
  ∃ ys : List (NestedKey × Addr × Value), Paired (fun (p : NestedKey × Addr × V) (q : NestedKey × Addr × Value) => p.1 = q.1 ∧ p.2.1 = q.2.1 ∧ RelV p.2.2 q.2.2) xs ys ∧
    ∃ o es ep, h.get? a = some o ∧ o.ExactDict ∧ o.data = .dict es ep ∧ es.toList = ys.map fun x => (⟨hashN x.1, .ref x.2.1, x.2.2⟩ : DictEntry)
/-- how what stands at a place is held -/
def OkOb (K : PySem.W.Frag) (w : Wd) (a : Addr) (h : HO) : Ob → Prop
  | .lst xs => ∃ vs, h = .lst vs ∧ xs.length ≤ sizeLine ∧ RDs K w xs vs
  | .dct kvs => ∃ xs, h = dctO a xs ∧ kvs.length ≤ sizeLine ∧ RKs K w kvs xs
  | .gone => True
structure RS (K : PySem.W.Frag) (w : Wd) (S : Store) : Prop where
  len : S.length = w.n
  inj : ∀ i j, i < w.n → j < w.n → w.φ i = w.φ j → i = j
  trk : ∀ i, i < w.n → ∃ o, w.H (w.φ i) = some o
  hid : ∀ a, w.hid a → (∃ o, w.H a = some o) ∧ ¬ own w a
  ob : ∀ i o, S[i]? = some o → ∃ h, w.H (w.φ i) = some h ∧ OkOb K w (w.φ i) h o
/-- the names -/
structure RE (K : PySem.W.Frag) (w : Wd) (ρ : Env) (σ : L2.St) : Prop where
  len : ρ.length = σ.length
  at_ : ∀ (i : Nat) (d : D), ρ[i]? = some (some d) → ∃ v, σ[i]? = some (some v) ∧ RD K w d v

variable {K : PySem.W.Frag} {w w' w'' : Wd} {S : Store}
theorem Step.refl (w : Wd) : Step w w := ⟨Nat.le_refl _, fun _ _ => rfl, fun _ _ h k => ⟨h, k⟩, fun _ z => z, fun _ _ => rfl⟩
theorem Step.trans (a : Step w w') (b : Step w' w'') : Step w w'' :=
  ⟨Nat.le_trans a.n b.n, fun i h => (b.φ i (Nat.lt_of_lt_of_le h a.n)).trans (a.φ i h), fun x o h k => let ⟨h1, k1⟩ := a.st x o h k; b.st x o h1 k1, fun x h => b.hd x (a.hd x h),
    fun x h => (b.hs x (a.hd x h)).trans (a.hs x h)⟩
theorem rd_step {a : Addr} {o : HO} (s : Step w w') (h : Rd w.H a o ∧ ¬ bus w a) : Rd w'.H a o ∧ ¬ bus w' a := by
  obtain ⟨h | ⟨u, h⟩, k⟩ := h
  · exact ⟨.inl (s.st _ _ h k).1, (s.st _ _ h k).2⟩
  · exact ⟨.inr ⟨u, (s.st _ _ h k).1⟩, (s.st _ _ h k).2⟩
theorem TupAt.step {a : Addr} {vs : List V} (s : Step w w') (h : TupAt K w a vs) : TupAt K w' a vs := h.imp (rd_step s) id
theorem LstAt.step {a : Addr} {vs : List V} (s : Step w w') (h : LstAt K w a vs) : LstAt K w' a vs := h.imp (rd_step s) id
theorem TupAt.sq {a : Addr} {vs : List V} (h : TupAt K w a vs) : SqT K w.H a vs := by
  rcases h with h | (h | ⟨o, h⟩) | h
  · exact .inl h.1
  · cases h
  · cases h
  · exact .inr h
theorem LstAt.sq {a : Addr} {vs : List V} (h : LstAt K w a vs) : SqL K w.H a vs := by
  rcases h with h | (h | ⟨o, h⟩) | h
  · exact .inl h.1
  · cases h
  · cases h
  · exact .inr h
mutual
theorem RD.step (s : Step w w') : ∀ {d : D} {v : V}, RD K w d v → RD K w' d v
  | _, _, .non => .non
  | _, _, .bl b => .bl b
  | _, _, .int i => .int i
  | _, _, .str x => .str x
  | _, _, .tup h l r => .tup (h.step s) l (RDs.step s r)
  | _, _, .lst h l r => .lst (h.step s) l (RDs.step s r)
  | _, _, .emp h k => .emp (s.st _ _ h k).1 (s.st _ _ h k).2
  | _, _, .loc h => by
    rw [← s.φ _ h]
    exact .loc (Nat.lt_of_lt_of_le h s.n)
theorem RDs.step (s : Step w w') : ∀ {ds : List D} {vs : List V}, RDs K w ds vs → RDs K w' ds vs
  | _, _, .nil => .nil
  | _, _, .cons h r => .cons (RD.step s h) (RDs.step s r)
end
theorem RKs.step (s : Step w w') : ∀ {l : List (D × D)} {m : List (NestedKey × Addr × V)}, RKs K w l m → RKs K w' l m
  | _, _, .nil => .nil
  | _, _, .cons h r1 r2 t => .cons h (r1.step s) (r2.step s) (RKs.step s t)
theorem RKs.length : ∀ {l : List (D × D)} {m : List (NestedKey × Addr × V)}, RKs K w l m → l.length = m.length
  | _, _, .nil => rfl
  | _, _, .cons _ _ _ t => by rw [List.length_cons, List.length_cons, RKs.length t]
theorem OkOb.step {a : Addr} {h : HO} (s : Step w w') : ∀ {o : Ob}, OkOb K w a h o → OkOb K w' a h o
  | .lst _, ⟨vs, e, l, t⟩ => ⟨vs, e, l, RDs.step s t⟩
  | .dct _, ⟨xs, e, l, t⟩ => ⟨xs, e, l, t.step s⟩
  | .gone, _ => trivial
theorem RS.lst (r : RS K w S) (i : Nat) (xs : List D) (e : S[i]? = some (.lst xs)) : ∃ vs, w.H (w.φ i) = some (.lst vs) ∧ xs.length ≤ sizeLine ∧ RDs K w xs vs := by
  obtain ⟨h, q, vs, rfl, l, t⟩ := r.ob i _ e
  exact ⟨vs, q, l, t⟩
theorem RS.dct (r : RS K w S) (i : Nat) (kvs : List (D × D)) (e : S[i]? = some (.dct kvs)) : ∃ xs, w.H (w.φ i) = some (dctO (w.φ i) xs) ∧ kvs.length ≤ sizeLine ∧ RKs K w kvs xs := by
  obtain ⟨h, q, xs, rfl, l, t⟩ := r.ob i _ e
  exact ⟨xs, q, l, t⟩
theorem RE.step {ρ : Env} {σ : L2.St} (s : Step w w') (h : RE K w ρ σ) : RE K w' ρ σ :=
  ⟨h.len, fun i d e => let ⟨v, h1, h2⟩ := h.at_ i d e; ⟨v, h1, h2.step s⟩⟩
theorem RDs.length : ∀ {ds : List D} {vs : List V}, RDs K w ds vs → ds.length = vs.length
  | _, _, .nil => rfl
  | _, _, .cons _ r => by rw [List.length_cons, List.length_cons, RDs.length r]
theorem RDs.get : ∀ {ds : List D} {vs : List V} {i : Nat} {d : D}, RDs K w ds vs → ds[i]? = some d → ∃ v, vs[i]? = some v ∧ RD K w d v
  | _, _, _, _, .nil, e => by simp at e
  | _, _, 0, _, .cons r _, e => by simp at e; subst e; exact ⟨_, rfl, r⟩
  | _, _, i + 1, d, .cons _ t, e => by
    obtain ⟨v, h1, h2⟩ := RDs.get (i := i) (d := d) t (by simpa using e)
    exact ⟨v, by simpa using h1, h2⟩
theorem RDs.got : ∀ {ds : List D} {vs : List V} {i : Nat} {v : V}, RDs K w ds vs → vs[i]? = some v → ∃ d, ds[i]? = some d ∧ RD K w d v
  | _, _, _, _, .nil, e => by simp at e
  | _, _, 0, _, .cons r _, e => by simp at e; subst e; exact ⟨_, rfl, r⟩
  | _, _, i + 1, v, .cons _ t, e => by
    obtain ⟨d, h1, h2⟩ := RDs.got (i := i) (v := v) t (by simpa using e)
    exact ⟨d, by simpa using h1, h2⟩
theorem RDs.append : ∀ {ds es : List D} {vs us : List V}, RDs K w ds vs → RDs K w es us → RDs K w (ds ++ es) (vs ++ us)
  | _, _, _, _, .nil, t => t
  | _, _, _, _, .cons r s, t => .cons r (RDs.append s t)
theorem RDs.take : ∀ {ds : List D} {vs : List V} (n : Nat), RDs K w ds vs → RDs K w (ds.take n) (vs.take n)
  | _, _, 0, _ => .nil
  | _, _, _ + 1, .nil => .nil
  | _, _, n + 1, .cons r t => .cons r (RDs.take n t)
theorem RDs.drop : ∀ {ds : List D} {vs : List V} (n : Nat), RDs K w ds vs → RDs K w (ds.drop n) (vs.drop n)
  | _, _, 0, r => r
  | _, _, _ + 1, .nil => .nil
  | _, _, n + 1, .cons _ t => RDs.drop n t
theorem RDs.set {d : D} {v : V} (r : RD K w d v) : ∀ {ds : List D} {vs : List V} (i : Nat), RDs K w ds vs → RDs K w (ds.set i d) (vs.set i v)
  | _, _, _, .nil => .nil
  | _, _, 0, .cons _ t => .cons r t
  | _, _, i + 1, .cons q t => .cons q (RDs.set r i t)
theorem RDs.reverse : ∀ {ds : List D} {vs : List V}, RDs K w ds vs → RDs K w ds.reverse vs.reverse
  | _, _, .nil => .nil
  | _, _, .cons r t => by
    rw [List.reverse_cons, List.reverse_cons]
    exact (RDs.reverse t).append (.cons r .nil)
theorem RDs.replicate {ds : List D} {vs : List V} (r : RDs K w ds vs) : ∀ k : Nat, RDs K w (List.replicate k ds).flatten (List.replicate k vs).flatten
  | 0 => .nil
  | k + 1 => by
    rw [List.replicate_succ, List.replicate_succ, List.flatten_cons, List.flatten_cons]
    exact r.append (RDs.replicate r k)
theorem RDs.dropLast {ds : List D} {vs : List V} (r : RDs K w ds vs) : RDs K w ds.dropLast vs.dropLast := by
  rw [List.dropLast_eq_take, List.dropLast_eq_take, r.length]
  exact r.take _

/-! ### new things -/
theorem RS.free (r : RS K w S) {p : Addr} (h : w.H p = none) : ¬ bus w p := fun z => by
  rcases z with ⟨i, hi, e⟩ | z
  · obtain ⟨o, q⟩ := r.trk i hi
    rw [e, h] at q
    cases q
  · obtain ⟨⟨o, q⟩, _⟩ := r.hid p z
    rw [h] at q
    cases q
/-- a new thing that is no place of the store -/
def Wd.put (w : Wd) (p : Addr) (o : HO) : Wd := ⟨w.φ, w.n, upd w.H p o, w.hid⟩
theorem put_step {p : Addr} {o : HO} (r : RS K w S) (h : w.H p = none) : Step w (w.put p o) := by
  have keep : ∀ a u, w.H a = some u → upd w.H p o a = some u := fun a u e => by
    rw [upd_ne (ne_of_none e h)]
    exact e
  refine ⟨Nat.le_refl _, fun _ _ => rfl, fun a u e k => ⟨keep a u e, k⟩, fun _ z => z, fun a z => ?_⟩
  obtain ⟨⟨u, q⟩, _⟩ := r.hid a z
  exact (keep a u q).trans q.symm
theorem RS.put (r : RS K w S) {p : Addr} {o : HO} (h : w.H p = none) : RS K (w.put p o) S := by
  have keep : ∀ a u, w.H a = some u → upd w.H p o a = some u := fun a u e => by
    rw [upd_ne (ne_of_none e h)]
    exact e
  refine ⟨r.len, r.inj, fun i hi => ?_, fun a z => ?_, fun i xs e => ?_⟩
  · obtain ⟨u, q⟩ := r.trk i hi
    exact ⟨u, keep _ _ q⟩
  · obtain ⟨⟨u, q⟩, n⟩ := r.hid a z
    exact ⟨⟨u, keep _ _ q⟩, n⟩
  · obtain ⟨u, q, t⟩ := r.ob i xs e
    exact ⟨u, keep _ _ q, t.step (put_step r h)⟩
theorem put_tup {p : Addr} {ds : List D} {vs : List V} (r : RS K w S) (h : w.H p = none) (l : ds.length ≤ sizeLine) (t : RDs K w ds vs) : RD K (w.put p (.tup vs)) (.tup ds) (.ref p) :=
  .tup (.inl ⟨.inl upd_same, r.free h⟩) l (t.step (put_step r h))
theorem put_lst {p : Addr} {ds : List D} {vs : List V} (r : RS K w S) (h : w.H p = none) (l : ds.length ≤ sizeLine) (t : RDs K w ds vs) : RD K (w.put p (.lst vs)) (.lst ds) (.ref p) :=
  .lst (.inl ⟨.inl upd_same, r.free h⟩) l (t.step (put_step r h))
/-- a new place of the store -/
def Wd.add (w : Wd) (p : Addr) (o : HO) : Wd := ⟨fun i => if i = w.n then p else w.φ i, w.n + 1, upd w.H p o, w.hid⟩
theorem add_old {p : Addr} {o : HO} {i : Nat} (h : i < w.n) : (w.add p o).φ i = w.φ i := if_neg (Nat.ne_of_lt h)
theorem add_new {p : Addr} {o : HO} : (w.add p o).φ w.n = p := if_pos rfl
theorem add_own {p : Addr} {o : HO} {a : Addr} (z : own (w.add p o) a) : own w a ∨ a = p := by
  obtain ⟨i, hi, q⟩ := z
  by_cases hn : i = w.n
  · subst hn
    rw [add_new] at q
    exact .inr q.symm
  · have hi' : i < w.n := by
      have : i < w.n + 1 := hi
      omega
    rw [add_old hi'] at q
    exact .inl ⟨i, hi', q⟩
theorem add_step {p : Addr} {o : HO} (r : RS K w S) (h : w.H p = none) : Step w (w.add p o) := by
  have keep : ∀ a u, w.H a = some u → upd w.H p o a = some u := fun a u e => by
    rw [upd_ne (ne_of_none e h)]
    exact e
  refine ⟨Nat.le_succ _, fun i hi => add_old hi, fun a u e k => ⟨keep a u e, fun z => ?_⟩, fun _ z => z, fun a z => ?_⟩
  · rcases z with z | z
    · rcases add_own z with z | z
      · exact k (.inl z)
      · rw [z, h] at e
        cases e
    · exact k (.inr z)
  · obtain ⟨⟨u, q⟩, _⟩ := r.hid a z
    exact (keep a u q).trans q.symm
theorem RS.addO (r : RS K w S) {p : Addr} {ho : HO} {ob : Ob} (h : w.H p = none) (t : OkOb K w p ho ob) : RS K (w.add p ho) (S ++ [ob]) := by
  have ne : ∀ i, i < w.n → w.φ i ≠ p := fun i hi e => r.free h (.inl ⟨i, hi, e⟩)
  have keep : ∀ a u, w.H a = some u → upd w.H p ho a = some u := fun a u e => by
    rw [upd_ne (ne_of_none e h)]
    exact e
  have cs : ∀ i, i < w.n + 1 → i < w.n ∨ i = w.n := fun i hi => by omega
  refine ⟨by rw [List.length_append, r.len]; rfl, fun i j hi hj e => ?_, fun i hi => ?_, fun a z => ?_, fun i ys e => ?_⟩
  · rcases cs i hi with h1 | h1 <;> rcases cs j hj with h2 | h2
    · rw [add_old h1, add_old h2] at e
      exact r.inj i j h1 h2 e
    · subst h2
      rw [add_old h1, add_new] at e
      exact absurd e (ne i h1)
    · subst h1
      rw [add_old h2, add_new] at e
      exact absurd e.symm (ne j h2)
    · rw [h1, h2]
  · rcases cs i hi with h1 | h1
    · obtain ⟨u, q⟩ := r.trk i h1
      refine ⟨u, ?_⟩
      rw [add_old h1]
      exact keep _ _ q
    · subst h1
      rw [add_new]
      exact ⟨_, upd_same⟩
  · obtain ⟨⟨u, q⟩, n⟩ := r.hid a z
    refine ⟨⟨u, keep _ _ q⟩, fun z' => ?_⟩
    rcases add_own z' with z' | z'
    · exact n z'
    · rw [z', h] at q
      cases q
  · by_cases h1 : i < w.n
    · rw [List.getElem?_append_left (by rw [r.len]; exact h1)] at e
      obtain ⟨us, q, t'⟩ := r.ob i ys e
      refine ⟨us, ?_, ?_⟩
      · rw [add_old h1]
        exact keep _ _ q
      · rw [add_old h1]
        exact t'.step (add_step r h)
    · have hl := (List.getElem?_eq_some_iff.mp e).1
      rw [List.length_append, r.len, List.length_singleton] at hl
      have h2 : i = w.n := by omega
      subst h2
      rw [List.getElem?_append_right (by rw [r.len]; exact Nat.le_refl _), r.len, Nat.sub_self] at e
      cases e
      rw [add_new]
      exact ⟨ho, upd_same, t.step (add_step r h)⟩
theorem RS.add (r : RS K w S) {p : Addr} {xs : List D} {vs : List V} (h : w.H p = none) (l : xs.length ≤ sizeLine) (t : RDs K w xs vs) : RS K (w.add p (.lst vs)) (S ++ [.lst xs]) := r.addO h ⟨vs, rfl, l, t⟩
theorem add_rd {p : Addr} {o : HO} : RD K (w.add p o) (.loc w.n) (.ref p) := by
  have e : (w.add p o).φ w.n = p := add_new
  have q : RD K (w.add p o) (.loc w.n) (.ref ((w.add p o).φ w.n)) := .loc (Nat.lt_succ_self _)
  rw [e] at q
  exact q
/-- a place of the store holds something else -/
theorem turn_step {i : Nat} {o : HO} (r : RS K w S) (hi : i < w.n) : Step w (w.put (w.φ i) o) := by
  refine ⟨Nat.le_refl _, fun _ _ => rfl, fun a u e k => ⟨?_, k⟩, fun _ z => z, fun a z => ?_⟩
  · show upd w.H (w.φ i) o a = some u
    rw [upd_ne fun q => k (.inl ⟨i, hi, q.symm⟩)]
    exact e
  · show upd w.H (w.φ i) o a = w.H a
    rw [upd_ne fun q => (r.hid a z).2 ⟨i, hi, q.symm⟩]
theorem RS.turnO (r : RS K w S) {i : Nat} {ho : HO} {ob : Ob} (hi : i < w.n) (t : OkOb K w (w.φ i) ho ob) : RS K (w.put (w.φ i) ho) (S.set i ob) := by
  have trk : ∀ a u, w.H a = some u → ∃ u, upd w.H (w.φ i) ho a = some u := fun a u e => by
    by_cases h : a = w.φ i
    · exact ⟨_, by rw [h]; exact upd_same⟩
    · exact ⟨u, by rw [upd_ne h]; exact e⟩
  refine ⟨by rw [List.length_set]; exact r.len, r.inj, fun j hj => ?_, fun a z => ?_, fun j ys e => ?_⟩
  · obtain ⟨u, q⟩ := r.trk j hj
    exact trk _ _ q
  · obtain ⟨⟨u, q⟩, n⟩ := r.hid a z
    exact ⟨trk _ _ q, n⟩
  · by_cases h : i = j
    · subst h
      rw [List.getElem?_set_self (by rw [r.len]; exact hi)] at e
      cases e
      exact ⟨ho, upd_same, t.step (turn_step r hi)⟩
    · rw [List.getElem?_set_ne h] at e
      obtain ⟨us, q, t'⟩ := r.ob j ys e
      have hj : j < w.n := by
        rw [← r.len]
        exact (List.getElem?_eq_some_iff.mp e).1
      exact ⟨us, by show upd w.H (w.φ i) _ (w.φ j) = _; rw [upd_ne fun q => h (r.inj _ _ hj hi q).symm]; exact q, t'.step (turn_step r hi)⟩
theorem RS.turn (r : RS K w S) {i : Nat} {xs : List D} {vs : List V} (hi : i < w.n) (l : xs.length ≤ sizeLine) (t : RDs K w xs vs) : RS K (w.put (w.φ i) (.lst vs)) (S.set i (.lst xs)) := r.turnO hi ⟨vs, rfl, l, t⟩
theorem RS.lt (r : RS K w S) {i : Nat} {o : Ob} (e : S[i]? = some o) : i < w.n := by
  rw [← r.len]
  exact (List.getElem?_eq_some_iff.mp e).1
/-! ### a list that a comprehension is making -/
def Wd.hide (w : Wd) (p : Addr) (o : HO) : Wd := ⟨w.φ, w.n, upd w.H p o, fun a => w.hid a ∨ a = p⟩
def Wd.show_ (w : Wd) (h : Addr → Prop) : Wd := ⟨w.φ, w.n, w.H, h⟩
theorem hide_bus {p : Addr} {o : HO} {a : Addr} (z : bus (w.hide p o) a) : bus w a ∨ a = p := by
  rcases z with z | z | z
  · exact .inl (.inl z)
  · exact .inl (.inr z)
  · exact .inr z
mutual
theorem RD.hide {p : Addr} {o : HO} (h : w.H p = none) : ∀ {d : D} {v : V}, RD K w d v → RD K (w.hide p o) d v
  | _, _, .non => .non
  | _, _, .bl b => .bl b
  | _, _, .int i => .int i
  | _, _, .str x => .str x
  | _, _, .tup g l r => .tup (g.imp (fun ⟨q, k⟩ => ⟨q.imp (fun e => (upd_ne (ne_of_none e h)).trans e) fun ⟨u, e⟩ => ⟨u, (upd_ne (ne_of_none e h)).trans e⟩, fun z => (hide_bus z).elim k fun e => by
      subst e
      rcases q with e | ⟨u, e⟩ <;> (rw [h] at e; cases e)⟩) id) l (RDs.hide h r)
  | _, _, .lst g l r => .lst (g.imp (fun ⟨q, k⟩ => ⟨q.imp (fun e => (upd_ne (ne_of_none e h)).trans e) fun ⟨u, e⟩ => ⟨u, (upd_ne (ne_of_none e h)).trans e⟩, fun z => (hide_bus z).elim k fun e => by
      subst e
      rcases q with e | ⟨u, e⟩ <;> (rw [h] at e; cases e)⟩) id) l (RDs.hide h r)
  | _, _, .emp e k => .emp ((upd_ne (ne_of_none e h)).trans e) fun z => (hide_bus z).elim k fun q => by
      subst q
      rw [h] at e
      cases e
  | _, _, .loc hi => .loc (w := w.hide p o) hi
theorem RDs.hide {p : Addr} {o : HO} (h : w.H p = none) : ∀ {ds : List D} {vs : List V}, RDs K w ds vs → RDs K (w.hide p o) ds vs
  | _, _, .nil => .nil
  | _, _, .cons r t => .cons (RD.hide h r) (RDs.hide h t)
end
theorem RKs.hide {p : Addr} {o : HO} (h : w.H p = none) : ∀ {l : List (D × D)} {m : List (NestedKey × Addr × V)}, RKs K w l m → RKs K (w.hide p o) l m
  | _, _, .nil => .nil
  | _, _, .cons g r1 r2 t => .cons g (RD.hide h r1) (RD.hide h r2) (RKs.hide h t)
theorem OkOb.hide {a : Addr} {u : HO} {p : Addr} {o : HO} (h : w.H p = none) : ∀ {ob : Ob}, OkOb K w a u ob → OkOb K (w.hide p o) a u ob
  | .lst _, ⟨vs, e, l, t⟩ => ⟨vs, e, l, RDs.hide h t⟩
  | .dct _, ⟨xs, e, l, t⟩ => ⟨xs, e, l, t.hide h⟩
  | .gone, _ => trivial
theorem hide_step {p : Addr} {o : HO} (r : RS K w S) (h : w.H p = none) : Step w (w.hide p o) := by
  have keep : ∀ a u, w.H a = some u → upd w.H p o a = some u := fun a u e => by
    rw [upd_ne (ne_of_none e h)]
    exact e
  refine ⟨Nat.le_refl _, fun _ _ => rfl, fun a u e k => ⟨keep a u e, fun z => (hide_bus z).elim k (ne_of_none e h)⟩, fun _ z => .inl z, fun a z => ?_⟩
  obtain ⟨⟨u, q⟩, _⟩ := r.hid a z
  exact (keep a u q).trans q.symm
theorem RS.hide (r : RS K w S) {p : Addr} {o : HO} (h : w.H p = none) : RS K (w.hide p o) S := by
  have keep : ∀ a u, w.H a = some u → upd w.H p o a = some u := fun a u e => by
    rw [upd_ne (ne_of_none e h)]
    exact e
  refine ⟨r.len, r.inj, fun i hi => ?_, fun a z => ?_, fun i xs e => ?_⟩
  · obtain ⟨u, q⟩ := r.trk i hi
    exact ⟨u, keep _ _ q⟩
  · rcases z with z | z
    · obtain ⟨⟨u, q⟩, n⟩ := r.hid a z
      exact ⟨⟨u, keep _ _ q⟩, n⟩
    · subst z
      exact ⟨⟨o, upd_same⟩, fun ⟨i, hi, e⟩ => r.free h (.inl ⟨i, hi, e⟩)⟩
  · obtain ⟨u, q, t⟩ := r.ob i xs e
    exact ⟨u, keep _ _ q, t.hide h⟩
/-- the list grows by one -/
def Wd.grow (w : Wd) (p : Addr) (o : HO) : Wd := ⟨w.φ, w.n, upd w.H p o, w.hid⟩
mutual
theorem RD.grow {p : Addr} {o : HO} (h : w.hid p) : ∀ {d : D} {v : V}, RD K w d v → RD K (w.grow p o) d v
  | _, _, .non => .non
  | _, _, .bl b => .bl b
  | _, _, .int i => .int i
  | _, _, .str x => .str x
  | _, _, .tup g l r => .tup (g.imp (fun ⟨q, k⟩ => ⟨q.imp (fun e => (upd_ne fun z => k (.inr (by rw [z]; exact h))).trans e) fun ⟨u, e⟩ => ⟨u, (upd_ne fun z => k (.inr (by rw [z]; exact h))).trans e⟩, k⟩) id) l (RDs.grow h r)
  | _, _, .lst g l r => .lst (g.imp (fun ⟨q, k⟩ => ⟨q.imp (fun e => (upd_ne fun z => k (.inr (by rw [z]; exact h))).trans e) fun ⟨u, e⟩ => ⟨u, (upd_ne fun z => k (.inr (by rw [z]; exact h))).trans e⟩, k⟩) id) l (RDs.grow h r)
  | _, _, .emp e k => .emp ((upd_ne fun z => k (.inr (by rw [z]; exact h))).trans e) k
  | _, _, .loc hi => .loc (w := w.grow p o) hi
theorem RDs.grow {p : Addr} {o : HO} (h : w.hid p) : ∀ {ds : List D} {vs : List V}, RDs K w ds vs → RDs K (w.grow p o) ds vs
  | _, _, .nil => .nil
  | _, _, .cons r t => .cons (RD.grow h r) (RDs.grow h t)
end
theorem RKs.grow {p : Addr} {o : HO} (h : w.hid p) : ∀ {l : List (D × D)} {m : List (NestedKey × Addr × V)}, RKs K w l m → RKs K (w.grow p o) l m
  | _, _, .nil => .nil
  | _, _, .cons g r1 r2 t => .cons g (RD.grow h r1) (RD.grow h r2) (RKs.grow h t)
theorem OkOb.grow {a : Addr} {u : HO} {p : Addr} {o : HO} (h : w.hid p) : ∀ {ob : Ob}, OkOb K w a u ob → OkOb K (w.grow p o) a u ob
  | .lst _, ⟨vs, e, l, t⟩ => ⟨vs, e, l, RDs.grow h t⟩
  | .dct _, ⟨xs, e, l, t⟩ => ⟨xs, e, l, t.grow h⟩
  | .gone, _ => trivial
theorem RS.grow (r : RS K w S) {p : Addr} {o : HO} (h : w.hid p) : RS K (w.grow p o) S := by
  have trk : ∀ a u, w.H a = some u → ∃ u, upd w.H p o a = some u := fun a u e => by
    by_cases q : a = p
    · exact ⟨_, by rw [q]; exact upd_same⟩
    · exact ⟨u, by rw [upd_ne q]; exact e⟩
  refine ⟨r.len, r.inj, fun i hi => ?_, fun a z => ?_, fun i xs e => ?_⟩
  · obtain ⟨u, q⟩ := r.trk i hi
    exact trk _ _ q
  · obtain ⟨⟨u, q⟩, n⟩ := r.hid a z
    exact ⟨trk _ _ q, n⟩
  · obtain ⟨u, q, t⟩ := r.ob i xs e
    exact ⟨u, (upd_ne fun z => (r.hid p h).2 ⟨i, r.lt e, z⟩).trans q, t.grow h⟩
/-! what is out of the comprehension sees its list no more as its own -/
mutual
theorem RD.bare {h : Addr → Prop} (hh : ∀ a, h a → w.hid a) : ∀ {d : D} {v : V}, RD K w d v → RD K (w.show_ h) d v
  | _, _, .non => .non
  | _, _, .bl b => .bl b
  | _, _, .int i => .int i
  | _, _, .str x => .str x
  | _, _, .tup g l r => .tup (g.imp (fun ⟨q, k⟩ => ⟨q, fun z => k (z.imp id (hh _))⟩) id) l (RDs.bare hh r)
  | _, _, .lst g l r => .lst (g.imp (fun ⟨q, k⟩ => ⟨q, fun z => k (z.imp id (hh _))⟩) id) l (RDs.bare hh r)
  | _, _, .emp e k => .emp e fun z => k (z.imp id (hh _))
  | _, _, .loc hi => .loc (w := w.show_ h) hi
theorem RDs.bare {h : Addr → Prop} (hh : ∀ a, h a → w.hid a) : ∀ {ds : List D} {vs : List V}, RDs K w ds vs → RDs K (w.show_ h) ds vs
  | _, _, .nil => .nil
  | _, _, .cons r t => .cons (RD.bare hh r) (RDs.bare hh t)
end
theorem RKs.bare {h : Addr → Prop} (hh : ∀ a, h a → w.hid a) : ∀ {l : List (D × D)} {m : List (NestedKey × Addr × V)}, RKs K w l m → RKs K (w.show_ h) l m
  | _, _, .nil => .nil
  | _, _, .cons g r1 r2 t => .cons g (RD.bare hh r1) (RD.bare hh r2) (RKs.bare hh t)
theorem OkOb.bare {a : Addr} {u : HO} {h : Addr → Prop} (hh : ∀ a, h a → w.hid a) : ∀ {ob : Ob}, OkOb K w a u ob → OkOb K (w.show_ h) a u ob
  | .lst _, ⟨vs, e, l, t⟩ => ⟨vs, e, l, RDs.bare hh t⟩
  | .dct _, ⟨xs, e, l, t⟩ => ⟨xs, e, l, t.bare hh⟩
  | .gone, _ => trivial
theorem RS.bare (r : RS K w S) {h : Addr → Prop} (hh : ∀ a, h a → w.hid a) : RS K (w.show_ h) S :=
  ⟨r.len, r.inj, r.trk, fun a z => r.hid a (hh a z), fun i xs e => let ⟨u, q, t⟩ := r.ob i xs e; ⟨u, q, t.bare hh⟩⟩
end Pv

/-! Readings over data: what is wanted is said of data and the store alone. -/
namespace Pv
open PySem L2

abbrev QE := D → Store → Prop
abbrev QT := Bool → Store → Prop
abbrev QA := List D → Store → Prop
structure En where
  nx : Env → Store → Prop
  rt : QE
  bk : Env → Store → Prop := fun _ _ => False
  ct : Env → Store → Prop := fun _ _ => False
abbrev WE := Env → Store → QE → Prop
abbrev WT := Env → Store → QT → Prop
abbrev WA := Env → Store → QA → Prop
abbrev WS := Env → Store → En → Prop
abbrev WG := D → Env → Store → (Env → Store → Prop) → Prop
abbrev O1 := D → Store → QE → Prop
abbrev O2 := D → D → Store → QE → Prop
abbrev OL := List D → Store → QE → Prop

variable {K : PySem.W.Frag}
/-- what follows a value -/
def KtE (K : PySem.W.Frag) (w : Wd) (Q0 : QE) (Q : VK) : Prop := ∀ d S' w' v, Q0 d S' → Step w w' → RS K w' S' → RD K w' d v → Q v w'.H
def KtT (K : PySem.W.Frag) (w : Wd) (Q0 : QT) (Q : Bool → Hp → Prop) : Prop := ∀ b S' w', Q0 b S' → Step w w' → RS K w' S' → Q b w'.H
def KtA (K : PySem.W.Frag) (w : Wd) (Q0 : QA) (Q : List V → Hp → Prop) : Prop := ∀ ds S' w' vs, Q0 ds S' → Step w w' → RS K w' S' → RDs K w' ds vs → Q vs w'.H
def KtN (K : PySem.W.Frag) (w : Wd) (Q0 : Env → Store → Prop) (Q : L2.St → Hp → Prop) : Prop := ∀ ρ S' w' σ, Q0 ρ S' → Step w w' → RS K w' S' → RE K w' ρ σ → Q σ w'.H
def uE (K : PySem.W.Frag) (t : WE) : TE := fun σ H Q => ∃ w S ρ Q0, w.H = H ∧ RS K w S ∧ RE K w ρ σ ∧ t ρ S Q0 ∧ KtE K w Q0 Q
def uT (K : PySem.W.Frag) (t : WT) : TT := fun σ H Q => ∃ w S ρ Q0, w.H = H ∧ RS K w S ∧ RE K w ρ σ ∧ t ρ S Q0 ∧ KtT K w Q0 Q
def uA (K : PySem.W.Frag) (t : WA) : TA := fun σ H Q => ∃ w S ρ Q0, w.H = H ∧ RS K w S ∧ RE K w ρ σ ∧ t ρ S Q0 ∧ KtA K w Q0 Q
def uS (K : PySem.W.Frag) (t : WS) : TS := fun N σ H => ∃ w S ρ E0, w.H = H ∧ RS K w S ∧ RE K w ρ σ ∧ t ρ S E0 ∧ KtN K w E0.nx N.nx ∧ KtE K w E0.rt N.rt ∧ KtN K w E0.bk N.bk ∧ KtN K w E0.ct N.ct
def uG (K : PySem.W.Frag) (t : WG) : TG := fun v σ H Q => ∃ w S ρ d Q0, w.H = H ∧ RS K w S ∧ RE K w ρ σ ∧ RD K w d v ∧ t d ρ S Q0 ∧ KtN K w Q0 Q
def u1 (K : PySem.W.Frag) (o : O1) : V → Hp → VK → Prop := fun x H Q => ∃ w S d Q0, w.H = H ∧ RS K w S ∧ RD K w d x ∧ o d S Q0 ∧ KtE K w Q0 Q
def u2 (K : PySem.W.Frag) (o : O2) : R2 := fun x y H Q => ∃ w S d e Q0, w.H = H ∧ RS K w S ∧ RD K w d x ∧ RD K w e y ∧ o d e S Q0 ∧ KtE K w Q0 Q
def uL (K : PySem.W.Frag) (o : OL) : List V → Hp → VK → Prop := fun xs H Q => ∃ w S ds Q0, w.H = H ∧ RS K w S ∧ RDs K w ds xs ∧ o ds S Q0 ∧ KtE K w Q0 Q

theorem KtE.step {w w' : Wd} {Q0 : QE} {Q : VK} (s : Step w w') (k : KtE K w Q0 Q) : KtE K w' Q0 Q := fun d S' w'' v q s' => k d S' w'' v q (s.trans s')
theorem KtT.step {w w' : Wd} {Q0 : QT} {Q : Bool → Hp → Prop} (s : Step w w') (k : KtT K w Q0 Q) : KtT K w' Q0 Q := fun d S' w'' q s' => k d S' w'' q (s.trans s')
theorem KtA.step {w w' : Wd} {Q0 : QA} {Q : List V → Hp → Prop} (s : Step w w') (k : KtA K w Q0 Q) : KtA K w' Q0 Q := fun d S' w'' v q s' => k d S' w'' v q (s.trans s')
theorem KtN.step {w w' : Wd} {Q0 : Env → Store → Prop} {Q : L2.St → Hp → Prop} (s : Step w w') (k : KtN K w Q0 Q) : KtN K w' Q0 Q := fun d S' w'' v q s' => k d S' w'' v q (s.trans s')

/-! ### weaker readings -/
section
variable {X : Cx} {e : Expr} {es : List Expr} {st : Stmt} {sts : List Stmt}
theorem pe_of {t t' : TE} (h : PE X e t) (i : ∀ σ H Q, t' σ H Q → t σ H Q) : PE X e t' := ⟨fun pins s σ H Q I q => h.run pins s σ H Q I (i _ _ _ q)⟩
theorem pt_of {t t' : TT} (h : PT X e t) (i : ∀ σ H Q, t' σ H Q → t σ H Q) : PT X e t' := ⟨fun pins s σ H Q I q => h.run pins s σ H Q I (i _ _ _ q)⟩
theorem pa_of {t t' : TA} (h : PA X es t) (i : ∀ σ H Q, t' σ H Q → t σ H Q) : PA X es t' := ⟨fun p pins s σ H Q I q => h.run p pins s σ H Q I (i _ _ _ q)⟩
theorem ps_of {t t' : TS} (h : PS X st t) (i : ∀ N σ H, t' N σ H → t N σ H) : PS X st t' := ⟨fun pins s σ H N I q => h.run pins s σ H N I (i _ _ _ q)⟩
theorem pss_of {t t' : TS} (h : PSs X sts t) (i : ∀ N σ H, t' N σ H → t N σ H) : PSs X sts t' := ⟨fun pins s σ H N I q => h.run pins s σ H N I (i _ _ _ q)⟩
theorem pg_of {t t' : TG} (h : PG X e t) (i : ∀ v σ H Q, t' v σ H Q → t v σ H Q) : PG X e t' := ⟨fun pins s σ H v u Q I r q => h.run pins s σ H v u Q I r (i _ _ _ _ q)⟩
end

/-! ### expressions -/
section
variable {X : Cx} {a b c e : Expr} {es : List Expr} {pos : Pos} {ta tb tc : WE} {tt tu : WT}
def wVar (i : Nat) : WE := fun ρ S Q => ∃ d, ρ[i]? = some (some d) ∧ Q d S
def wC (d : D) : WE := fun _ S Q => Q d S
theorem qe_var {i : Nat} (h : PE X e (tVar i)) : PE X e (uE X.K (wVar i)) := pe_of h fun σ H Q ⟨w, S, ρ, Q0, e, rs, re, ⟨d, hd, q⟩, k⟩ => by
  subst e
  obtain ⟨v, hv, r⟩ := re.at_ i d hd
  exact ⟨v, hv, k d S w v q (Step.refl _) rs r⟩
theorem qe_c {d : D} {v : V} (h : PE X e (tC v)) (r : ∀ w, RD X.K w d v) : PE X e (uE X.K (wC d)) := pe_of h fun σ H Q ⟨w, S, ρ, Q0, e, rs, re, q, k⟩ => by
  subst e
  exact k d S w v q (Step.refl _) rs (r w)
def w2 (o : O2) (ta tb : WE) : WE := fun ρ S Q => ta ρ S fun x S1 => tb ρ S1 fun y S2 => o x y S2 Q
theorem op_u {o : O2} {ρ : Env} {S : Store} {Q0 : QE} {Q : VK} {w : Wd} {σ : L2.St} (rs : RS K w S) (re : RE K w ρ σ) (h : w2 o ta tb ρ S Q0) (k : KtE K w Q0 Q) : tOp (u2 K o) (uE K ta) (uE K tb) σ w.H Q := by
  refine ⟨w, S, ρ, _, rfl, rs, re, h, fun x S1 w1 v1 h1 s1 rs1 r1 => ?_⟩
  refine ⟨w1, S1, ρ, _, rfl, rs1, re.step s1, h1, fun y S2 w2 v2 h2 s2 rs2 r2 => ?_⟩
  exact ⟨w2, S2, x, y, Q0, rfl, rs2, r1.step s2, r2, h2, k.step (s1.trans s2)⟩
theorem qe_op {op : Operator} {o : O2} (ho : OpR X (binaryOp op) (u2 X.K o)) (ha : PE X a (uE X.K ta)) (hb : PE X b (uE X.K tb)) : PE X (.BinOp a op b pos) (uE X.K (w2 o ta tb)) :=
  pe_of (pe_op ho ha hb) fun σ H Q ⟨w, S, ρ, Q0, e, rs, re, h, k⟩ => by
    subst e
    exact op_u rs re h k
theorem qe_cmp {op : CmpOp} {o : O2} (ho : OpR X (compareOp op) (u2 X.K o)) (ha : PE X a (uE X.K ta)) (hb : PE X b (uE X.K tb)) (hm : behindInMarks op b = false) : PE X (.Compare a [op] [b] pos) (uE X.K (w2 o ta tb)) :=
  pe_of (pe_cmpR ho ha hb hm) fun σ H Q ⟨w, S, ρ, Q0, e, rs, re, h, k⟩ => by
    subst e
    exact op_u rs re h k
/-- a value that is a truth, as a test -/
def wB (t : WE) : WT := fun ρ S Q => t ρ S fun x S1 => ∃ c, x = .bl c ∧ Q c S1
theorem uB {t : WE} {σ : L2.St} {Q : Bool → Hp → Prop} {w : Wd} {ρ : Env} {Q0 : QT} {S : Store} (rs : RS K w S) (re : RE K w ρ σ) (h : wB t ρ S Q0) (k : KtT K w Q0 Q) : uE K t σ w.H fun x H' => ∃ c, x = .bl c ∧ Q c H' :=
  ⟨w, S, ρ, _, rfl, rs, re, h, fun x S1 w1 v1 ⟨c, e1, q⟩ s1 rs1 r1 => by
    subst e1
    cases r1
    exact ⟨c, rfl, k c S1 w1 q s1 rs1⟩⟩
theorem qt_cmp {op : CmpOp} {o : O2} (ho : OpR X (compareOp op) (u2 X.K o)) (ha : PE X a (uE X.K ta)) (hb : PE X b (uE X.K tb)) (hm : behindInMarks op b = false) : PT X (.Compare a [op] [b] pos) (uT X.K (wB (w2 o ta tb))) :=
  pt_of (pt_cmpR ho ha hb hm) fun σ H Q ⟨w, S, ρ, Q0, e, rs, re, h, k⟩ => by
    subst e
    refine op_u (Q := fun x H' => ∃ c, x = .bl c ∧ Q c H') rs re h fun x S1 w1 v1 ⟨c, e1, q⟩ s1 rs1 r1 => ?_
    subst e1
    cases r1
    exact ⟨c, rfl, k c S1 w1 q s1 rs1⟩
def wChain (o o' : O2) (ta tb tc : WE) : WE := fun ρ S Q => ta ρ S fun x S1 => tb ρ S1 fun y S2 => o x y S2 fun z S3 => ∃ c, z = .bl c ∧ if c = true then tc ρ S3 fun z' S4 => o' y z' S4 Q else Q (.bl false) S3
theorem chain_u {o o' : O2} {ρ : Env} {S : Store} {Q0 : QE} {Q : VK} {w : Wd} {σ : L2.St} (rs : RS K w S) (re : RE K w ρ σ) (h : wChain o o' ta tb tc ρ S Q0) (k : KtE K w Q0 Q) : tChain (u2 K o) (u2 K o') (uE K ta) (uE K tb) (uE K tc) σ w.H Q := by
  refine ⟨w, S, ρ, _, rfl, rs, re, h, fun x S1 w1 v1 h1 s1 rs1 r1 => ?_⟩
  refine ⟨w1, S1, ρ, _, rfl, rs1, re.step s1, h1, fun y S2 w2 v2 h2 s2 rs2 r2 => ?_⟩
  refine ⟨w2, S2, x, y, _, rfl, rs2, r1.step s2, r2, h2, fun z S3 w3 v3 ⟨c, e3, h3⟩ s3 rs3 r3 => ?_⟩
  subst e3
  cases r3
  refine ⟨c, rfl, ?_⟩
  have s03 := (s1.trans s2).trans s3
  cases c with
  | false => exact k _ _ _ _ h3 s03 rs3 (.bl false)
  | true =>
    show uE K tc σ w3.H _
    have h3 : tc ρ S3 fun z' S4 => o' y z' S4 Q0 := h3
    refine ⟨w3, S3, ρ, _, rfl, rs3, re.step s03, h3, fun z' S4 w4 v4 h4 s4 rs4 r4 => ?_⟩
    exact ⟨w4, S4, y, z', Q0, rfl, rs4, r2.step (s3.trans s4), r4, h4, k.step (s03.trans s4)⟩
theorem qe_chain {op op' : CmpOp} {o o' : O2} (ho : OpR X (compareOp op) (u2 X.K o)) (ho' : OpR X (compareOp op') (u2 X.K o')) (ha : PE X a (uE X.K ta)) (hb : PE X b (uE X.K tb)) (hc : PE X c (uE X.K tc)) (hm : lastMarks [op, op'] [b, c] = false) :
    PE X (.Compare a [op, op'] [b, c] pos) (uE X.K (wChain o o' ta tb tc)) := pe_of (pe_chain ho ho' ha hb hc hm) fun σ H Q ⟨w, S, ρ, Q0, e, rs, re, h, k⟩ => by
    subst e
    exact chain_u rs re h k
theorem qt_chain {op op' : CmpOp} {o o' : O2} (ho : OpR X (compareOp op) (u2 X.K o)) (ho' : OpR X (compareOp op') (u2 X.K o')) (ha : PE X a (uE X.K ta)) (hb : PE X b (uE X.K tb)) (hc : PE X c (uE X.K tc)) (hm : lastMarks [op, op'] [b, c] = false) :
    PT X (.Compare a [op, op'] [b, c] pos) (uT X.K (wB (wChain o o' ta tb tc))) := pt_of (pt_chain ho ho' ha hb hc hm) fun σ H Q ⟨w, S, ρ, Q0, e, rs, re, h, k⟩ => by
    subst e
    refine chain_u (Q := fun x H' => ∃ c, x = .bl c ∧ Q c H') rs re h fun x S1 w1 v1 ⟨c, e1, q⟩ s1 rs1 r1 => ?_
    subst e1
    cases r1
    exact ⟨c, rfl, k c S1 w1 q s1 rs1⟩
def w1 (o : O1) (ta : WE) : WE := fun ρ S Q => ta ρ S fun x S1 => o x S1 Q
theorem qe_un {op : UnaryOp} {o : O1} (ho : UnR X (unaryOp op) (u1 X.K o)) (ha : PE X a (uE X.K ta)) : PE X (.UnaryOp op a pos) (uE X.K (w1 o ta)) := pe_of (pe_un ho ha) fun σ H Q ⟨w, S, ρ, Q0, e, rs, re, h, k⟩ => by
    subst e
    exact ⟨w, S, ρ, _, rfl, rs, re, h, fun x S1 w1 v1 h1 s1 rs1 r1 => ⟨w1, S1, x, Q0, rfl, rs1, r1, h1, k.step s1⟩⟩
/-- not, and, or of truths -/
def wNot (ta : WE) : WE := fun ρ S Q => ta ρ S fun x S1 => ∃ c, x = .bl c ∧ Q (.bl (!c)) S1
theorem qe_not (ha : PE X a (uE X.K ta)) : PE X (.UnaryOp .Not a pos) (uE X.K (wNot ta)) := pe_of (pe_not ha) fun σ H Q ⟨w, S, ρ, Q0, e, rs, re, h, k⟩ => by
    subst e
    refine ⟨w, S, ρ, _, rfl, rs, re, h, fun x S1 w1 v1 ⟨c, e1, q⟩ s1 rs1 r1 => ?_⟩
    subst e1
    cases r1
    exact ⟨c, rfl, k _ S1 w1 _ q s1 rs1 (.bl _)⟩
def wAnd (ta tb : WE) : WE := fun ρ S Q => ta ρ S fun x S1 => ∃ c, x = .bl c ∧ if c = true then tb ρ S1 Q else Q (.bl false) S1
def wOr (ta tb : WE) : WE := fun ρ S Q => ta ρ S fun x S1 => ∃ c, x = .bl c ∧ if c = true then Q (.bl true) S1 else tb ρ S1 Q
theorem qe_and {rest : List Expr} (ha : PE X a (uE X.K ta)) (hb : PE X (.BoolOp .And (b :: rest) pos) (uE X.K tb)) : PE X (.BoolOp .And (a :: b :: rest) pos) (uE X.K (wAnd ta tb)) := pe_of (pe_and ha hb) fun σ H Q ⟨w, S, ρ, Q0, e, rs, re, h, k⟩ => by
    subst e
    refine ⟨w, S, ρ, _, rfl, rs, re, h, fun x S1 w1 v1 ⟨c, e1, q⟩ s1 rs1 r1 => ?_⟩
    subst e1
    cases r1
    refine ⟨c, rfl, ?_⟩
    cases c with
    | true => exact ⟨w1, S1, ρ, Q0, rfl, rs1, re.step s1, q, k.step s1⟩
    | false => exact k _ S1 w1 _ q s1 rs1 (.bl _)
theorem qe_or {rest : List Expr} (ha : PE X a (uE X.K ta)) (hb : PE X (.BoolOp .Or (b :: rest) pos) (uE X.K tb)) : PE X (.BoolOp .Or (a :: b :: rest) pos) (uE X.K (wOr ta tb)) := pe_of (pe_or ha hb) fun σ H Q ⟨w, S, ρ, Q0, e, rs, re, h, k⟩ => by
    subst e
    refine ⟨w, S, ρ, _, rfl, rs, re, h, fun x S1 w1 v1 ⟨c, e1, q⟩ s1 rs1 r1 => ?_⟩
    subst e1
    cases r1
    refine ⟨c, rfl, ?_⟩
    cases c with
    | false => exact ⟨w1, S1, ρ, Q0, rfl, rs1, re.step s1, q, k.step s1⟩
    | true => exact k _ S1 w1 _ q s1 rs1 (.bl _)
/-- tests -/
def vNot (t : WT) : WT := fun ρ S Q => t ρ S fun c S1 => Q (!c) S1
def vAnd (t u : WT) : WT := fun ρ S Q => t ρ S fun c S1 => if c = true then u ρ S1 Q else Q false S1
def vOr (t u : WT) : WT := fun ρ S Q => t ρ S fun c S1 => if c = true then Q true S1 else u ρ S1 Q
theorem qt_not (h : PT X a (uT X.K tt)) : PT X (.UnaryOp .Not a pos) (uT X.K (vNot tt)) := pt_of (pt_not h) fun σ H Q ⟨w, S, ρ, Q0, e, rs, re, h, k⟩ => by
    subst e
    exact ⟨w, S, ρ, _, rfl, rs, re, h, fun c S1 w1 q s1 rs1 => k _ S1 w1 q s1 rs1⟩
theorem pw_of {t t' : TT} (h : PW X e t) (i : ∀ σ H Q, t' σ H Q → t σ H Q) : PW X e t' := ⟨fun wh pins s σ H Q I q => h.run wh pins s σ H Q I (i _ _ _ q)⟩
theorem qw_and {rest : List Expr} (ha : PT X a (uT X.K tt)) (hb : PW X (.BoolOp .And (b :: rest) pos) (uT X.K tu)) : PW X (.BoolOp .And (a :: b :: rest) pos) (uT X.K (vAnd tt tu)) := pw_of (pw_and ha hb) fun σ H Q ⟨w, S, ρ, Q0, e, rs, re, h, k⟩ => by
    subst e
    refine ⟨w, S, ρ, _, rfl, rs, re, h, fun c S1 w1 q s1 rs1 => ?_⟩
    cases c with
    | true => exact ⟨w1, S1, ρ, Q0, rfl, rs1, re.step s1, q, k.step s1⟩
    | false => exact k _ S1 w1 q s1 rs1
theorem qw_or {rest : List Expr} (ha : PT X a (uT X.K tt)) (hb : PW X (.BoolOp .Or (b :: rest) pos) (uT X.K tu)) : PW X (.BoolOp .Or (a :: b :: rest) pos) (uT X.K (vOr tt tu)) := pw_of (pw_or ha hb) fun σ H Q ⟨w, S, ρ, Q0, e, rs, re, h, k⟩ => by
    subst e
    refine ⟨w, S, ρ, _, rfl, rs, re, h, fun c S1 w1 q s1 rs1 => ?_⟩
    cases c with
    | false => exact ⟨w1, S1, ρ, Q0, rfl, rs1, re.step s1, q, k.step s1⟩
    | true => exact k _ S1 w1 q s1 rs1
theorem qt_val (h : PE X e (uE X.K ta)) (he : ∀ whole, isTrue e X.env whole = (do let v ← whole; standAt e.pos; holding [v] (truthy v))) : PT X e (uT X.K (wB ta)) := pt_of (pt_val h he) fun σ H Q ⟨w, S, ρ, Q0, e, rs, re, h, k⟩ => by
    subst e
    exact uB rs re h k
def wIf (t : WT) (ta tb : WE) : WE := fun ρ S Q => t ρ S fun c S1 => if c = true then ta ρ S1 Q else tb ρ S1 Q
theorem qe_if (h : PT X c (uT X.K tt)) (ha : PE X a (uE X.K ta)) (hb : PE X b (uE X.K tb)) : PE X (.IfExp c a b pos) (uE X.K (wIf tt ta tb)) := pe_of (pe_ifExp h ha hb) fun σ H Q ⟨w, S, ρ, Q0, e, rs, re, h, k⟩ => by
    subst e
    refine ⟨w, S, ρ, _, rfl, rs, re, h, fun c S1 w1 q s1 rs1 => ?_⟩
    cases c with
    | true => exact ⟨w1, S1, ρ, Q0, rfl, rs1, re.step s1, q, k.step s1⟩
    | false => exact ⟨w1, S1, ρ, Q0, rfl, rs1, re.step s1, q, k.step s1⟩
/-- arguments, displays -/
def wNil : WA := fun _ S Q => Q [] S
def wCons (t : WE) (u : WA) : WA := fun ρ S Q => t ρ S fun x S1 => u ρ S1 fun xs S2 => Q (x :: xs) S2
theorem qa_nil : PA X [] (uA X.K wNil) := pa_of pa_nil fun σ H Q ⟨w, S, ρ, Q0, e, rs, re, h, k⟩ => by
    subst e
    exact k [] S w [] h (Step.refl _) rs .nil
theorem qa_cons {u : WA} (he : PE X e (uE X.K ta)) (hr : PA X es (uA X.K u)) (hs : starEach (e :: es) X.env = (false, eval e X.env) :: starEach es X.env) : PA X (e :: es) (uA X.K (wCons ta u)) := pa_of (pa_cons he hr hs) fun σ H Q ⟨w, S, ρ, Q0, e, rs, re, h, k⟩ => by
    subst e
    refine ⟨w, S, ρ, _, rfl, rs, re, h, fun x S1 w1 v1 h1 s1 rs1 r1 => ?_⟩
    exact ⟨w1, S1, ρ, _, rfl, rs1, re.step s1, h1, fun xs S2 w2 vs h2 s2 rs2 r2 => k _ S2 w2 _ h2 (s1.trans s2) rs2 (.cons (r1.step s2) r2)⟩
def wTup (u : WA) : WE := fun ρ S Q => u ρ S fun xs S1 => xs.length ≤ sizeLine ∧ Q (.tup xs) S1
def wLst (u : WA) : WE := fun ρ S Q => u ρ S fun xs S1 => xs.length ≤ sizeLine ∧ Q (.lst xs) S1
def wNew (u : WA) : WE := fun ρ S Q => u ρ S fun xs S1 => xs.length ≤ sizeLine ∧ Q (.loc S1.length) (S1 ++ [.lst xs])
theorem qe_tup {u : WA} {x1} (h : PA X es (uA X.K u)) : PE X (.Tuple es x1 pos) (uE X.K (wTup u)) := pe_of (pe_tup h) fun σ H Q ⟨w, S, ρ, Q0, e, rs, re, h, k⟩ => by
    subst e
    refine ⟨w, S, ρ, _, rfl, rs, re, h, fun xs S1 w1 vs ⟨l, h1⟩ s1 rs1 r1 => ⟨by rw [← r1.length]; exact l, fun p hp => ?_⟩⟩
    exact k _ S1 (w1.put p _) _ h1 (s1.trans (put_step rs1 hp)) (rs1.put hp) (put_tup rs1 hp l r1)
theorem qe_lst {u : WA} (h : PA X es (uA X.K u)) : PE X (.List es pos) (uE X.K (wLst u)) := pe_of (pe_lst h) fun σ H Q ⟨w, S, ρ, Q0, e, rs, re, h, k⟩ => by
    subst e
    refine ⟨w, S, ρ, _, rfl, rs, re, h, fun xs S1 w1 vs ⟨l, h1⟩ s1 rs1 r1 => ⟨by rw [← r1.length]; exact l, fun p hp => ?_⟩⟩
    exact k _ S1 (w1.put p _) _ h1 (s1.trans (put_step rs1 hp)) (rs1.put hp) (put_lst rs1 hp l r1)
theorem qe_new {u : WA} (h : PA X es (uA X.K u)) : PE X (.List es pos) (uE X.K (wNew u)) := pe_of (pe_lst h) fun σ H Q ⟨w, S, ρ, Q0, e, rs, re, h, k⟩ => by
    subst e
    refine ⟨w, S, ρ, _, rfl, rs, re, h, fun xs S1 w1 vs ⟨l, h1⟩ s1 rs1 r1 => ⟨by rw [← r1.length]; exact l, fun p hp => ?_⟩⟩
    have e1 := rs1.len
    rw [e1] at h1
    exact k _ _ (w1.add p _) _ h1 (s1.trans (add_step rs1 hp)) (rs1.add hp l r1) add_rd
/-- a call of a built-in -/
def wL (o : OL) (u : WA) : WE := fun ρ S Q => u ρ S fun xs S1 => o xs S1 Q
theorem uL_of {o : OL} {u : WA} {σ : L2.St} {Q : VK} {w : Wd} {ρ : Env} {Q0 : QE} {S : Store} (rs : RS K w S) (re : RE K w ρ σ) (h : wL o u ρ S Q0) (k : KtE K w Q0 Q) : uA K u σ w.H fun vs H1 => uL K o vs H1 Q :=
  ⟨w, S, ρ, _, rfl, rs, re, h, fun xs S1 w1 vs h1 s1 rs1 r1 => ⟨w1, S1, xs, Q0, rfl, rs1, r1, h1, k.step s1⟩⟩
end
end Pv

/-! The operations, by data. -/
namespace Pv
open PySem L2 PySem.Spec PyProof.Rows
variable {K : PySem.W.Frag} {w : Wd} {S : Store}

/-- the items of a list, wherever it stands -/
def seqL (S : Store) : D → Option (List D)
  | .lst xs => some xs
  | .loc i => match S[i]? with
    | some (.lst xs) => some xs
    | _ => none
  | _ => none
/-- of a list or a tuple -/
def seqX (S : Store) : D → Option (List D)
  | .tup xs => some xs
  | d => seqL S d
theorem seqL_at {d : D} {v : V} {xs : List D} (rs : RS K w S) (r : RD K w d v) (h : seqL S d = some xs) : ∃ a vs, v = .ref a ∧ SqL K w.H a vs ∧ RDs K w xs vs ∧ xs.length ≤ sizeLine := by
  cases r with
  | lst h1 h2 h3 =>
    cases h
    exact ⟨_, _, rfl, h1.sq, h3, h2⟩
  | @loc i hi =>
    unfold seqL at h
    simp only at h
    split at h
    · rename_i ys e2
      cases h
      obtain ⟨vs, q, l, t⟩ := rs.lst i _ e2
      exact ⟨_, vs, rfl, .of q, t, l⟩
    · cases h
  | _ => cases h
theorem seqX_at {d : D} {v : V} {xs : List D} (rs : RS K w S) (r : RD K w d v) (h : seqX S d = some xs) : ∃ a vs, v = .ref a ∧ (SqL K w.H a vs ∨ SqT K w.H a vs) ∧ RDs K w xs vs ∧ xs.length ≤ sizeLine := by
  cases d with
  | tup ys =>
    cases h
    cases r with
    | tup h1 h2 h3 => exact ⟨_, _, rfl, .inr h1.sq, h3, h2⟩
  | _ =>
    obtain ⟨a, vs, e, q, t, l⟩ := seqL_at rs r h
    exact ⟨a, vs, e, .inl q, t, l⟩

/-! ### + -/
def addD : O2 := fun d e S Q => match d, e with
  | .int i, .int j => Q (.int (i + j)) S
  | .str a, .str b => a.length + b.length ≤ sizeLine ∧ Q (.str (a ++ b)) S
  | .tup a, .tup b => a.length + b.length ≤ sizeLine ∧ Q (.tup (a ++ b)) S
  | d, e => ∃ a b, seqL S d = some a ∧ seqL S e = some b ∧ a.length + b.length ≤ sizeLine ∧ Q (.lst (a ++ b)) S
section
variable {X : Cx}
/-- what the rules of values need of a world -/
theorem fresh_k {Q0 : QE} {Q : VK} {d : D} {vs : List V} {ds : List D} (k : KtE K w Q0 Q) (rs : RS K w S) (q : Q0 (.lst ds) S) (l : ds.length ≤ sizeLine) (t : RDs K w ds vs) (p : Addr) (hp : w.H p = none) : Q (.ref p) (upd w.H p (.lst vs)) :=
  k _ S (w.put p _) _ q (put_step rs hp) (rs.put hp) (put_lst rs hp l t)
theorem fresh_kT {Q0 : QE} {Q : VK} {vs : List V} {ds : List D} (k : KtE K w Q0 Q) (rs : RS K w S) (q : Q0 (.tup ds) S) (l : ds.length ≤ sizeLine) (t : RDs K w ds vs) (p : Addr) (hp : w.H p = none) : Q (.ref p) (upd w.H p (.tup vs)) :=
  k _ S (w.put p _) _ q (put_step rs hp) (rs.put hp) (put_tup rs hp l t)
theorem op_catLL : OpR X (binaryOp .Add) (fun x y H Q => ∃ l b xs ys, x = .ref l ∧ y = .ref b ∧ SqL X.K H l xs ∧ SqL X.K H b ys ∧ xs.length + ys.length ≤ sizeLine ∧ ∀ p, H p = none → Q (.ref p) (upd H p (.lst (xs ++ ys)))) := by
  rintro pins s σ H x y v u Q I rx ry ⟨l, b, xs, ys, rfl, rfl, hl, hb, hz, q⟩
  cases rx
  cases ry
  obtain ⟨its, r, ⟨⟨c1, d1, t1, s1⟩, n, g1, ec, ed, et⟩, _⟩ := I.list hl
  obtain ⟨its2, r2, ⟨⟨c2, d2, t2, s2⟩, n2, g2, ec2, ed2, et2⟩, _⟩ := I.list hb
  simp only at ec ed et ec2 ed2 et2
  subst ec ed et ec2 ed2 et2
  have z : its.toArray.size + its2.toArray.size ≤ sizeLine := by
    rw [List.size_toArray, List.size_toArray, ← r.length, ← r2.length]
    exact hz
  refine concat_meets ⟨_, g1, rfl⟩ ⟨_, g2, rfl⟩ noFill_list_add seq_list_add PySem.F.slot_list_add PySem.F.entry_list_add (PySem.F.args_list_add_2 _ _) (list_addW l b its.toArray its2.toArray n n2 none none s1 s2 z) ⟨g1, g2, ?_⟩
  have ea : its.toArray ++ its2.toArray = (its ++ its2).toArray := by simp
  rw [ea]
  exact ⟨.ref _, _, I.lnew (t' := s.toks) (r.append r2) (by rw [List.length_append]; exact hz), rfl, q _ I.fresh⟩
theorem op_addD : OpR X (binaryOp .Add) (u2 X.K addD) := by
  rintro pins s σ H x y v u Q I rx ry ⟨w, S, d, e, Q0, rfl, rs, rd, re, h, k⟩
  unfold addD at h
  split at h
  · cases rd
    cases re
    exact op_add pins s σ w.H _ _ v u Q I rx ry ⟨_, _, rfl, rfl, k _ S w _ h (Step.refl _) rs (.int _)⟩
  · cases rd
    cases re
    exact op_add_str pins s σ w.H _ _ v u Q I rx ry ⟨_, _, rfl, rfl, h.1, k _ S w _ h.2 (Step.refl _) rs (.str _)⟩
  · rename_i a b
    obtain ⟨hz, h⟩ := h
    have hh := id rd
    have hh2 := id re
    cases rd with
    | @tup p vs ds h1 h2 h3 =>
      cases re with
      | @tup q us es g1 g2 g3 =>
        refine op_catA pins s σ w.H _ _ v u Q I rx ry ⟨_, _, vs, us, rfl, rfl, h1.sq, g1.sq, by rw [← h3.length, ← g3.length]; exact hz, fun e0 => ?_, fun n0 e0 => ?_, fun n0 n1 p' hp => ?_⟩
        · subst e0
          cases h3
          exact k _ S w _ h (Step.refl _) rs hh2
        · subst e0
          cases g3
          rw [List.append_nil] at h
          exact k _ S w _ h (Step.refl _) rs hh
        · exact fresh_kT k rs h (by rw [List.length_append]; exact hz) (h3.append g3) p' hp
  · obtain ⟨a, b, ha, hb, hz, h⟩ := h
    obtain ⟨p, vs, rfl, q1, t1, l1⟩ := seqL_at rs rd ha
    obtain ⟨p2, us, rfl, q2, t2, l2⟩ := seqL_at rs re hb
    refine op_catLL pins s σ w.H _ _ v u Q I rx ry ⟨_, _, vs, us, rfl, rfl, q1, q2, by rw [← t1.length, ← t2.length]; exact hz, fun p' hp => ?_⟩
    exact fresh_k (d := .non) k rs h (by rw [List.length_append]; exact hz) (t1.append t2) p' hp

/-! ### ints -/
def intD (C : Int → Int → Prop) (g : Int → Int → Int) : O2 := fun d e S Q => ∃ i j, d = .int i ∧ e = .int j ∧ C i j ∧ Q (.int (g i j)) S
theorem op_intD {f : Value → Value → Sem Value} {C : Int → Int → Prop} {g : Int → Int → Int} (h : OpR X f (rI C fun i j => .int (g i j))) : OpR X f (u2 X.K (intD C g)) := by
  rintro pins s σ H x y v u Q I rx ry ⟨w, S, d, e, Q0, rfl, rs, rd, re, ⟨i, j, rfl, rfl, c, q⟩, k⟩
  cases rd
  cases re
  exact h pins s σ w.H _ _ v u Q I rx ry ⟨i, j, rfl, rfl, c, k _ S w _ q (Step.refl _) rs (.int _)⟩
theorem op_intD0 {f : Value → Value → Sem Value} {g : Int → Int → Int} (h : OpR X f (rI0 fun i j => .int (g i j))) : OpR X f (u2 X.K (intD (fun _ _ => True) g)) :=
  op_intD fun pins s σ H x y v u Q I rx ry ⟨i, j, e1, e2, _, q⟩ => h pins s σ H x y v u Q I rx ry ⟨i, j, e1, e2, q⟩
def boolD (g : Int → Int → Bool) : O2 := fun d e S Q => ∃ i j, d = .int i ∧ e = .int j ∧ Q (.bl (g i j)) S
theorem op_boolD {f : Value → Value → Sem Value} {g : Int → Int → Bool} (h : OpR X f (rI0 fun i j => .bl (g i j))) : OpR X f (u2 X.K (boolD g)) := by
  rintro pins s σ H x y v u Q I rx ry ⟨w, S, d, e, Q0, rfl, rs, rd, re, ⟨i, j, rfl, rfl, q⟩, k⟩
  cases rd
  cases re
  exact h pins s σ w.H _ _ v u Q I rx ry ⟨i, j, rfl, rfl, k _ S w _ q (Step.refl _) rs (.bl _)⟩
/-- t < u of tuples of ints -/
def ltD : O2 := fun d e S Q => boolD (fun i j => decide (i < j)) d e S Q ∨ ∃ ns ms : List Int, d = .tup (ns.map D.int) ∧ e = .tup (ms.map D.int) ∧ Q (.bl (HT.lexLt ns ms)) S
theorem rds_ints : ∀ {ns : List Int} {vs : List V}, RDs K w (ns.map D.int) vs → vs = ns.map V.int
  | [], _, r => by
    cases r
    rfl
  | n :: ns, _, r => by
    cases r with
    | cons h t =>
      cases h
      rw [rds_ints t]
      rfl
theorem op_ltD (hu : X.A.units < cLine) : OpR X (compareOp .Lt) (u2 X.K ltD) := by
  rintro pins s σ H x y v u Q I rx ry ⟨w, S, d, e, Q0, rfl, rs, rd, re, h | ⟨ns, ms, rfl, rfl, q⟩, k⟩
  · exact op_boolD op_lt pins s σ w.H _ _ v u Q I rx ry ⟨w, S, d, e, Q0, rfl, rs, rd, re, h, k⟩
  · cases rd with
    | tup a1 a2 a3 =>
      cases re with
      | tup b1 b2 b3 =>
        have e1 := rds_ints a3
        have e2 := rds_ints b3
        subst e1 e2
        exact op_ltT hu pins s σ w.H _ _ v u Q I rx ry ⟨_, _, ns, ms, rfl, rfl, a1.sq, b1.sq, k _ S w _ q (Step.refl _) rs (.bl _)⟩
theorem ltD_int {i j : Int} {S : Store} {Q : QE} : ltD (.int i) (.int j) S Q ↔ Q (.bl (decide (i < j))) S := by
  unfold ltD boolD
  constructor
  · rintro (⟨i, j, e1, e2, q⟩ | ⟨ns, ms, e1, _⟩)
    · cases e1
      cases e2
      exact q
    · cases e1
  · exact fun q => .inl ⟨_, _, rfl, rfl, q⟩
def subD : O2 := intD (fun _ _ => True) (· - ·)
def fdivD : O2 := intD CDiv (· / ·)
def modD : O2 := intD (fun _ j => 0 < j) (· % ·)
def powD : O2 := intD CPow fun i j => i ^ j.toNat
/-- a product; a list so many times -/
def mulD : O2 := fun d e S Q => match d, e with
  | .int i, .int j => CMul i j ∧ Q (.int (i * j)) S
  | d, .int j => ∃ xs, seqL S d = some xs ∧ 0 ≤ j ∧ j < 2 ^ 63 ∧ xs.length * j.toNat ≤ sizeLine ∧ Q (.lst (List.replicate j.toNat xs).flatten) S
  | _, _ => False
theorem rep_len {α : Type} (xs : List α) : ∀ k : Nat, (List.replicate k xs).flatten.length = xs.length * k
  | 0 => by simp
  | k + 1 => by
    rw [List.replicate_succ, List.flatten_cons, List.length_append, rep_len xs k, Nat.mul_succ, Nat.add_comm]
/-- the lists that are told as such and stand in the heap by themselves -/
theorem op_mulI : OpR X (binaryOp .Mult) (u2 X.K (intD CMul (· * ·))) := op_intD op_mul
end

/-! ### == -/
mutual
def py : D → Option PyData
  | .non => some .none
  | .bl b => some (.bool b)
  | .int i => some (.int i)
  | .str x => some (.str x)
  | .tup xs => (pys xs).map .tuple
  | .lst xs => (pys xs).map .list
  | .emp => none
  | .loc _ => none
def pys : List D → Option (List PyData)
  | [] => some []
  | x :: xs => (py x).bind fun a => (pys xs).map fun b => a :: b
end
mutual
theorem py_dp : ∀ {d : D} {v : V} {a : PyData}, RD K w d v → py d = some a → Dp K w.H v a
  | _, _, _, .non, h => by
    simp only [py] at h
    cases h
    exact .non
  | _, _, _, .bl b, h => by
    simp only [py] at h
    cases h
    exact .bl b
  | _, _, _, .int b, h => by
    simp only [py] at h
    cases h
    exact .int b
  | _, _, _, .str b, h => by
    simp only [py] at h
    cases h
    exact .str b
  | _, _, _, .tup h1 h2 h3, h => by
    simp only [py, Option.map_eq_some_iff] at h
    obtain ⟨as, ha, rfl⟩ := h
    exact .tup h1.sq (pys_dp h3 ha)
  | _, _, _, .lst h1 h2 h3, h => by
    simp only [py, Option.map_eq_some_iff] at h
    obtain ⟨as, ha, rfl⟩ := h
    exact .lst h1.sq (pys_dp h3 ha)
  | _, _, _, .emp _ _, h => by
    simp only [py] at h
    cases h
  | _, _, _, .loc _, h => by
    simp only [py] at h
    cases h
theorem pys_dp : ∀ {ds : List D} {vs : List V} {as : List PyData}, RDs K w ds vs → pys ds = some as → DpAll K w.H vs as
  | _, _, _, .nil, h => by
    simp only [pys] at h
    cases h
    exact .nil
  | _, _, _, .cons r t, h => by
    simp only [pys, Option.bind_eq_some_iff, Option.map_eq_some_iff] at h
    obtain ⟨a, ha, as, has, rfl⟩ := h
    exact .cons (py_dp r ha) (pys_dp t has)
end
/-- beside the empty tuple, the empty list -/
def emS (S : Store) (d e : D) : Option (List D) := match e with
  | .tup [] => (match d with
    | .tup xs => some xs
    | _ => none)
  | .lst [] => seqL S d
  | _ => none
def eqD (neg : Bool) : O2 := fun d e S Q =>
  (∃ xs, emS S d e = some xs ∧ Q (.bl (xs.isEmpty != neg)) S) ∨
  ∃ a b, py d = some a ∧ py e = some b ∧ SeqAt.shaped a = true ∧ SeqAt.shaped b = true ∧ Q (.bl (PyData.eqv a b != neg)) S
section
variable {X : Cx}
theorem op_eqQ (hu : X.A.units + 64 < cLine) : OpR X (compareOp .Eq) (u2 X.K (eqD false)) := by
  rintro pins s σ H x y v u Q I rx ry ⟨w, S, d, e, Q0, rfl, rs, rd, re, h, k⟩
  rcases h with ⟨xs, hem, q⟩ | ⟨a, b, ha, hb, sa, sb, q⟩
  · unfold emS at hem
    split at hem
    · split at hem
      · cases hem
        cases rd with
        | @tup p vs ds h1 h2 h3 =>
          cases re with
          | @tup p2 us es g1 g2 g3 =>
            cases g3
            cases rx
            cases ry
            obtain ⟨its, r, t, _⟩ := I.tuple h1.sq
            obtain ⟨its2, r2, t2, _⟩ := I.tuple g1.sq
            cases r2
            refine SeqAt.eq_tupleAt (e := fun _ => true) t t2 (by omega) (fun j _ h2 => absurd h2 (by simp)) ⟨.bl _, w.H, I, rfl, ?_⟩
            have e1 : ((List.range (min its.toArray.size ([] : List Value).toArray.size)).all (fun _ => true) && its.toArray.size == ([] : List Value).toArray.size) = (xs.isEmpty != false) := by
              cases r <;> cases h3 <;> simp
            rw [e1]
            exact k _ S w _ q (Step.refl _) rs (.bl _)
      · cases hem
    · obtain ⟨p, vs, rfl, hs, h3, _⟩ := seqL_at rs rd hem
      cases re with
      | @lst p2 us es g1 g2 g3 =>
        cases g3
        cases rx
        cases ry
        obtain ⟨its, r, t, _⟩ := I.list hs
        obtain ⟨its2, r2, t2, _⟩ := I.list g1.sq
        cases r2
        by_cases hz : its = []
        · subst hz
          refine SeqAt.RcAt.lists (e := fun _ => true) t.isList t2.isList rfl (by omega) (fun j _ h2 => absurd h2 (by simp)) _ _ _ _ ⟨.bl _, w.H, I, rfl, ?_⟩
          have e1 : ((List.range ([] : List Value).toArray.size).all (fun _ => true)) = (xs.isEmpty != false) := by
            cases r
            cases h3
            rfl
          rw [e1]
          exact k _ S w _ q (Step.refl _) rs (.bl _)
        · refine SeqAt.RcAt.lists_lengths t.isList t2.isList (by cases its with
            | nil => exact absurd rfl hz
            | cons _ _ => simp) (by omega) _ _ _ _ ⟨.bl _, w.H, I, rfl, ?_⟩
          have e1 : false = (xs.isEmpty != false) := by
            cases r <;> cases h3 <;> simp at hz ⊢
          rw [e1]
          exact k _ S w _ q (Step.refl _) rs (.bl _)
    · cases hem
  · refine op_eqD hu pins s σ w.H _ _ v u Q I rx ry ⟨a, b, py_dp rd ha, py_dp re hb, sa, sb, ?_⟩
    rw [Bool.bne_false] at q
    exact k _ S w _ q (Step.refl _) rs (.bl _)
theorem op_neQ (hu : X.A.units + 64 < cLine) : OpR X (compareOp .NotEq) (u2 X.K (eqD true)) := by
  rintro pins s σ H x y v u Q I rx ry ⟨w, S, d, e, Q0, rfl, rs, rd, re, h, k⟩
  rcases h with ⟨xs, hem, q⟩ | ⟨a, b, ha, hb, sa, sb, q⟩
  · unfold emS at hem
    split at hem
    · split at hem
      · cases hem
        cases rd with
        | @tup p vs ds h1 h2 h3 =>
          cases re with
          | @tup p2 us es g1 g2 g3 =>
            cases g3
            cases rx
            cases ry
            obtain ⟨its, r, t, _⟩ := I.tuple h1.sq
            obtain ⟨its2, r2, t2, _⟩ := I.tuple g1.sq
            cases r2
            refine SeqAt.RcNeAt.tuples (e := fun _ => true) t t2 (by omega) (fun j _ h2 => absurd h2 (by simp)) _ _ _ _ ⟨.bl _, w.H, I, rfl, ?_⟩
            have e1 : (!((List.range (min its.toArray.size ([] : List Value).toArray.size)).all (fun _ => true) && its.toArray.size == ([] : List Value).toArray.size)) = (xs.isEmpty != true) := by
              cases r <;> cases h3 <;> simp
            rw [e1]
            exact k _ S w _ q (Step.refl _) rs (.bl _)
      · cases hem
    · obtain ⟨p, vs, rfl, hs, h3, _⟩ := seqL_at rs rd hem
      cases re with
      | @lst p2 us es g1 g2 g3 =>
        cases g3
        cases rx
        cases ry
        obtain ⟨its, r, t, _⟩ := I.list hs
        obtain ⟨its2, r2, t2, _⟩ := I.list g1.sq
        cases r2
        by_cases hz : its = []
        · subst hz
          refine SeqAt.RcNeAt.lists (e := fun _ => true) t.isList t2.isList rfl (by omega) (fun j _ h2 => absurd h2 (by simp)) _ _ _ _ ⟨.bl _, w.H, I, rfl, ?_⟩
          have e1 : (!(List.range ([] : List Value).toArray.size).all (fun _ => true)) = (xs.isEmpty != true) := by
            cases r
            cases h3
            rfl
          rw [e1]
          exact k _ S w _ q (Step.refl _) rs (.bl _)
        · refine SeqAt.RcNeAt.lists_lengths t.isList t2.isList (by cases its with
            | nil => exact absurd rfl hz
            | cons _ _ => simp) (by omega) _ _ _ _ ⟨.bl _, w.H, I, rfl, ?_⟩
          have e1 : true = (xs.isEmpty != true) := by
            cases r <;> cases h3 <;> simp at hz ⊢
          rw [e1]
          exact k _ S w _ q (Step.refl _) rs (.bl _)
    · cases hem
  · refine op_neD hu pins s σ w.H _ _ v u Q I rx ry ⟨a, b, py_dp rd ha, py_dp re hb, sa, sb, ?_⟩
    rw [Bool.bne_true] at q
    exact k _ S w _ q (Step.refl _) rs (.bl _)
/-- is None, is not None -/
def isNon : D → Bool
  | .non => true
  | _ => false
def isND (neg : Bool) : O2 := fun d e S Q => e = .non ∧ Q (.bl (isNon d != neg)) S
theorem non_iff {d : D} {v : V} (r : RD K w d v) : decide (v = .non) = isNon d := by
  cases r <;> simp [isNon]
theorem op_isNQ : OpR X (compareOp .Is) (u2 X.K (isND false)) := by
  rintro pins s σ H x y v u Q I rx ry ⟨w, S, d, e, Q0, rfl, rs, rd, re, ⟨rfl, q⟩, k⟩
  cases re
  refine op_isN pins s σ w.H _ _ v u Q I rx ry ⟨rfl, ?_⟩
  rw [non_iff rd]
  rw [Bool.bne_false] at q
  exact k _ S w _ q (Step.refl _) rs (.bl _)
theorem op_notNQ : OpR X (compareOp .IsNot) (u2 X.K (isND true)) := by
  rintro pins s σ H x y v u Q I rx ry ⟨w, S, d, e, Q0, rfl, rs, rd, re, ⟨rfl, q⟩, k⟩
  cases re
  refine op_notN pins s σ w.H _ _ v u Q I rx ry ⟨rfl, ?_⟩
  rw [non_iff rd]
  rw [Bool.bne_true] at q
  exact k _ S w _ q (Step.refl _) rs (.bl _)
end
end Pv

/-! Dicts whose keys are tuples, by data. -/
namespace Pv
open PySem L2 PySem.Spec PyProof.Rows
variable {K : PySem.W.Frag} {w : Wd} {S : Store}

def dFind (kvs : List (D × D)) (k : NestedKey) : Option (D × D) := kvs.find? fun kv => decide (nkey kv.1 = some k)
def dGet (kvs : List (D × D)) (d : D) : Option D := match nkey d with
  | some k => (dFind kvs k).map (·.2)
  | none => none
def dPut (kvs : List (D × D)) (d e : D) : List (D × D) := if (dGet kvs d).isSome then kvs.map fun kv => if nkey kv.1 = nkey d then (kv.1, e) else kv else kvs ++ [(d, e)]
/-- of a place of the store -/
def dctL (S : Store) : D → Option (List (D × D))
  | .loc i => match S[i]? with
    | some (.dct kvs) => some kvs
    | _ => none
  | _ => none
def xFind (xs : List (NestedKey × Addr × V)) (k : NestedKey) : Option (NestedKey × Addr × V) := xs.find? fun x => decide (x.1 = k)
def xPut (xs : List (NestedKey × Addr × V)) (k : NestedKey) (a : Addr) (v : V) : List (NestedKey × Addr × V) := if (xFind xs k).isSome then xs.map fun x => if x.1 = k then (x.1, x.2.1, v) else x else xs ++ [(k, a, v)]
abbrev XY : List (NestedKey × Addr × V) → List (NestedKey × Addr × Value) → Prop := Paired fun (p : NestedKey × Addr × V) (q : NestedKey × Addr × Value) => p.1 = q.1 ∧ p.2.1 = q.2.1 ∧ RelV p.2.2 q.2.2
theorem xy_find {xs : List (NestedKey × Addr × V)} {ys : List (NestedKey × Addr × Value)} (r : XY xs ys) (k : NestedKey) :
    (xFind xs k = none ∧ atKey ys k = none) ∨ ∃ a v u, xFind xs k = some (k, a, v) ∧ atKey ys k = some (a, u) ∧ RelV v u := by
  induction r with
  | nil => exact .inl ⟨rfl, rfl⟩
  | @cons p q ps qs h t ih =>
    obtain ⟨pk, pa, pv⟩ := p
    obtain ⟨qk, qa, qv⟩ := q
    obtain ⟨e1, e2, e3⟩ := h
    simp only at e1 e2 e3
    subst e1 e2
    by_cases hk : pk = k
    · subst hk
      exact .inr ⟨pa, pv, qv, by simp [xFind], by simp [atKey], e3⟩
    · have f1 : xFind ((pk, pa, pv) :: ps) k = xFind ps k := by simp [xFind, hk]
      have f2 : atKey ((pk, pa, qv) :: qs) k = atKey qs k := by simp [atKey, hk]
      rw [f1, f2]
      exact ih
theorem xy_map {xs : List (NestedKey × Addr × V)} {ys : List (NestedKey × Addr × Value)} (r : XY xs ys) (k : NestedKey) {v : V} {u : Value} (rv : RelV v u) : XY (xs.map fun x => if x.1 = k then (x.1, x.2.1, v) else x) (ys.map (putAt k u)) := by
  induction r with
  | nil => exact .nil
  | @cons p q ps qs h t ih =>
    obtain ⟨pk, pa, pv⟩ := p
    obtain ⟨qk, qa, qv⟩ := q
    obtain ⟨e1, e2, e3⟩ := h
    simp only at e1 e2 e3
    subst e1 e2
    refine .cons ?_ ih
    by_cases hk : pk = k
    · simp only [putAt, hk, ↓reduceIte]
      exact ⟨trivial, trivial, rv⟩
    · simp only [putAt, hk, ↓reduceIte]
      exact ⟨trivial, trivial, e3⟩
theorem paired_app {α β : Type} {F : α → β → Prop} : ∀ {l l' : List α} {m m' : List β}, Paired F l m → Paired F l' m' → Paired F (l ++ l') (m ++ m')
  | _, _, _, _, .nil, q => q
  | _, _, _, _, .cons h t, q => .cons h (paired_app t q)
theorem xy_put {xs : List (NestedKey × Addr × V)} {ys : List (NestedKey × Addr × Value)} (r : XY xs ys) (k : NestedKey) (a : Addr) {v : V} {u : Value} (rv : RelV v u) : XY (xPut xs k a v) (storedH ys k a u) := by
  unfold xPut storedH
  rcases xy_find r k with ⟨h1, h2⟩ | ⟨b, v', u', h1, h2, _⟩
  · rw [h1, h2]
    exact paired_app r (.cons ⟨rfl, rfl, rv⟩ .nil)
  · rw [h1, h2]
    exact xy_map r k rv
theorem xy_keys {xs : List (NestedKey × Addr × V)} {ys : List (NestedKey × Addr × Value)} (r : XY xs ys) : xs.map (·.1) = ys.map (·.1) := by
  induction r with
  | nil => rfl
  | cons h t ih => rw [List.map_cons, List.map_cons, ih, h.1]
/-! by data -/
theorem rk_find {kvs : List (D × D)} {xs : List (NestedKey × Addr × V)} (r : RKs K w kvs xs) (k : NestedKey) :
    (dFind kvs k = none ∧ xFind xs k = none) ∨ ∃ d e a v, dFind kvs k = some (d, e) ∧ xFind xs k = some (k, a, v) ∧ RD K w e v := by
  induction r with
  | nil => exact .inl ⟨rfl, rfl⟩
  | @cons d e n a v l m h r1 r2 t ih =>
    by_cases hk : n = k
    · subst hk
      exact .inr ⟨d, e, a, v, by simp [dFind, h], by simp [xFind], r2⟩
    · have f1 : dFind ((d, e) :: l) k = dFind l k := by simp [dFind, h, hk]
      have f2 : xFind ((n, a, v) :: m) k = xFind m k := by simp [xFind, hk]
      rw [f1, f2]
      exact ih
theorem rk_map {kvs : List (D × D)} {xs : List (NestedKey × Addr × V)} (r : RKs K w kvs xs) {d e : D} {k : NestedKey} {v : V} (hk : nkey d = some k) (re : RD K w e v) :
    RKs K w (kvs.map fun kv => if nkey kv.1 = nkey d then (kv.1, e) else kv) (xs.map fun x => if x.1 = k then (x.1, x.2.1, v) else x) := by
  induction r with
  | nil => exact .nil
  | @cons d0 e0 n a v0 l m h r1 r2 t ih =>
    rw [List.map_cons, List.map_cons]
    by_cases hn : n = k
    · subst hn
      rw [if_pos (by rw [h, hk]), if_pos rfl]
      exact .cons h r1 re ih
    · rw [if_neg (by rw [h, hk]; simpa using hn), if_neg hn]
      exact .cons h r1 r2 ih
theorem rk_app {l l' : List (D × D)} {m m' : List (NestedKey × Addr × V)} (r : RKs K w l m) (r' : RKs K w l' m') : RKs K w (l ++ l') (m ++ m') := by
  induction r with
  | nil => exact r'
  | cons h r1 r2 t ih => exact .cons h r1 r2 ih
theorem rk_put {kvs : List (D × D)} {xs : List (NestedKey × Addr × V)} (r : RKs K w kvs xs) {d e : D} {k : NestedKey} {a : Addr} {v : V} (hk : nkey d = some k) (rd : RD K w d (.ref a)) (re : RD K w e v) : RKs K w (dPut kvs d e) (xPut xs k a v) := by
  have e0 : dGet kvs d = (dFind kvs k).map (·.2) := by
    unfold dGet
    rw [hk]
  unfold dPut xPut
  rcases rk_find r k with ⟨h1, h2⟩ | ⟨d', e', a', v', h1, h2, _⟩
  · rw [h1] at e0
    rw [if_neg (by rw [e0]; simp), if_neg (by rw [h2]; simp)]
    exact rk_app r (.cons hk rd re .nil)
  · rw [h1] at e0
    rw [if_pos (by rw [e0]; rfl), if_pos (by rw [h2]; rfl)]
    exact rk_map r hk re
theorem rk_hash {P : World} {kvs : List (D × D)} {xs : List (NestedKey × Addr × V)} (r : RKs K w kvs xs) : ∀ x ∈ xs, NestedKey.hash P x.1 = hashN x.1 := by
  induction r with
  | nil => intro x hx; cases hx
  | @cons d e n a v l m h r1 r2 t ih =>
    intro x hx
    rcases List.mem_cons.mp hx with rfl | hx
    · exact hash_nk (nkey_nk h).2.1
    · exact ih x hx
section
variable {X : Cx} {pins : List (Addr × Obj)} {σ : L2.St} {s : Shared}
mutual
/-- data as a key of the heap -/
theorem key_at (I : L2.Inv X pins σ w.H s) : ∀ {d : D} {v : V} {u : Value} {k : NestedKey}, RD X.K w d v → RelV v u → d.nk = some k → NestedIs s.heap k u
  | _, _, _, _, .non, r, h => by
    cases h
    cases r
    exact .none
  | _, _, _, _, .bl b, r, h => by
    cases h
    cases r
    exact .bool rfl
  | _, _, _, _, .int i, r, h => by
    cases h
    obtain ⟨t, rfl⟩ := r
    exact .int _ _
  | _, _, _, _, .str x, r, h => by cases h
  | _, _, _, _, .lst _ _ _, r, h => by cases h
  | _, _, _, _, .emp _ _, r, h => by cases h
  | _, _, _, _, .loc _, r, h => by cases h
  | _, _, _, _, .tup h1 h2 h3, r, h => by
    simp only [D.nk, Option.map_eq_some_iff] at h
    obtain ⟨ks, hk, rfl⟩ := h
    cases r
    obtain ⟨its, rv, ⟨o, ho, hc, n, hd⟩, _⟩ := I.tuple h1.sq
    exact .tup ho hc hd (keys_at I h3 rv hk)
theorem keys_at (I : L2.Inv X pins σ w.H s) : ∀ {ds : List D} {vs : List V} {us : List Value} {ks : List NestedKey}, RDs X.K w ds vs → Vals vs us → D.nks ds = some ks → NestedAll s.heap ks us
  | _, _, _, _, .nil, r, h => by
    cases h
    cases r
    exact .nil
  | _, _, _, _, .cons h1 h2, r, h => by
    simp only [D.nks] at h
    split at h
    · cases h
    · rename_i k hk
      rw [Option.map_eq_some_iff] at h
      obtain ⟨ks, hks, rfl⟩ := h
      cases r with
      | cons r1 r2 => exact .cons (key_at I h1 r1 hk) (keys_at I h2 r2 hks)
end
/-- the dict at a place of the store, as the library tells it -/
theorem dct_at (I : L2.Inv X pins σ w.H s) (rs : RS X.K w S) {i : Nat} {kvs : List (D × D)} (h : S[i]? = some (.dct kvs)) :
    ∃ xs ys, w.H (w.φ i) = some (dctO (w.φ i) xs) ∧ RKs X.K w kvs xs ∧ XY xs ys ∧ s.heap.DictOfH (nestedKind X.prog X.w) (w.φ i) ys ∧ (w.φ i == sysModules) = false ∧ ys.length ≤ sizeLine := by
  obtain ⟨xs, hH, hl, rk⟩ := rs.dct i kvs h
  obtain ⟨⟨hs, hn, hz, ys, rxy, o, es, ep, ho, hc, hd, he⟩, _, _⟩ := I.hok _ _ hH
  have hlen : ys.length = xs.length := by
    have := congrArg List.length (xy_keys rxy)
    simpa using this.symm
  refine ⟨xs, ys, hH, rk, rxy, ⟨o, es, ep, ho, hc, hd, ?_, ?_, ?_⟩, hs, by omega⟩
  · rw [he]
    refine List.map_congr_left fun y hy => ?_
    have hk : y.1 ∈ xs.map (·.1) := by
      rw [xy_keys rxy]
      exact List.mem_map_of_mem hy
    obtain ⟨x, hx, e⟩ := List.mem_map.mp hk
    have := rk_hash (P := X.w) rk x hx
    rw [e] at this
    show (⟨hashN y.1, _, _⟩ : DictEntry) = ⟨NestedKey.hash X.w y.1, _, _⟩
    rw [this]
  · have go : ∀ {kvs : List (D × D)} {xs : List (NestedKey × Addr × V)} {ys : List (NestedKey × Addr × Value)}, RKs X.K w kvs xs → XY xs ys → ∀ y ∈ ys, (nestedKind X.prog X.w).is s.heap y.1 y.2.1 := by
      intro kvs xs ys r
      induction r generalizing ys with
      | nil =>
        intro q y hy
        cases q
        cases hy
      | @cons d e n a v l m h r1 r2 t ih =>
        intro q y hy
        cases q with
        | @cons _ z _ zs q1 q2 =>
          rcases List.mem_cons.mp hy with rfl | hy
          · obtain ⟨e1, e2, _⟩ := q1
            simp only at e1 e2
            obtain ⟨⟨ds, hds⟩, hk, hdep⟩ := nkey_nk h
            rw [← e1, ← e2]
            exact ⟨key_at I r1 (show RelV (.ref a) (.ref a) from rfl) hk, hdep⟩
          · exact ih q2 y hy
    exact go rk rxy
  · rw [← xy_keys rxy]
    exact hn
theorem dct_ok {P : Program} {W : World} {H : Hp} {h : Heap} {a : Addr} {xs : List (NestedKey × Addr × V)} {ys : List (NestedKey × Addr × Value)} (hs : (a == sysModules) = false) (hz : xs.length ≤ sizeLine) (r : XY xs ys) (hh : ∀ x ∈ xs, NestedKey.hash W x.1 = hashN x.1)
    (dd : h.DictOfH (nestedKind P W) a ys) : ObjOk P W H h a (dctO a xs) := by
  obtain ⟨o, es, ep, ho, hc, hd, he, _, hn⟩ := dd
  refine ⟨⟨hs, by rw [xy_keys r]; exact hn, hz, ys, r, o, es, ep, ho, hc, hd, ?_⟩, ⟨o, ho⟩, ?_⟩
  · rw [he]
    refine List.map_congr_left fun y hy => ?_
    have hk : y.1 ∈ xs.map (·.1) := by
      rw [xy_keys r]
      exact List.mem_map_of_mem hy
    obtain ⟨x, hx, e⟩ := List.mem_map.mp hk
    have := hh x hx
    rw [e] at this
    show (⟨NestedKey.hash W y.1, _, _⟩ : DictEntry) = ⟨hashN y.1, _, _⟩
    rw [this]
  · rintro h1 h2 ⟨hs, hn, hz, ys, r, o, es, ep, ho, hc, hd, he⟩ k
    exact ⟨hs, hn, hz, ys, r, o, es, ep, k o ho, hc, hd, he⟩
/-- d[k] -/
theorem get_run (hu : X.A.units + 64 < cLine) (I : L2.Inv X pins σ w.H s) (rs : RS X.K w S) {i : Nat} {kvs : List (D × D)} (h : S[i]? = some (.dct kvs)) {d e : D} {v : V} {u : Value} (rd : RD X.K w d v) (ru : RelV v u) (hg : dGet kvs d = some e) {Q : VK}
    (q : ∀ y, RD X.K w e y → Q y w.H) : ∀ value slice, subscripted slice false (.ref (w.φ i)) u = operate [.ref (w.φ i), u] (getItem (.ref (w.φ i)) u) → wpAny (model X.prog X.w) X.A (subscriptTail value slice (.ref (w.φ i)) u) (EP X pins σ Q) X.xe s := by
  intro value slice hsub
  unfold dGet at hg
  split at hg
  · rename_i k hk
    obtain ⟨⟨ds, rfl⟩, hnk, hdep⟩ := nkey_nk hk
    obtain ⟨xs, ys, hH, rk, rxy, dd, hs, hz⟩ := dct_at I rs h
    obtain ⟨⟨d', e'⟩, hf, rfl⟩ := Option.map_eq_some_iff.mp hg
    rcases rk_find rk k with ⟨h1, _⟩ | ⟨d2, e2, a, y, h1, h2, r2⟩
    · rw [hf] at h1
      cases h1
    rw [hf] at h1
    cases h1
    rcases xy_find rxy k with ⟨h3, _⟩ | ⟨a', y', u', h3, h4, ry⟩
    · rw [h2] at h3
      cases h3
    rw [h2] at h3
    cases h3
    have kk := key_at I rd ru hnk
    cases rd with
    | tup t1 t2 t3 =>
      cases ru
      exact PyProof.Rows.subscriptTail_builtinR (x := u') (Q := EP X pins σ Q) dd.typeIs PySem.F.slot_dict_getitem.lookup (wpAny_getItem_heap (knd := nestedKind X.prog X.w) (by show X.A.in1.units + 8 < cLine; rw [Around.in1_units]; omega) ⟨kk, hdep⟩ dd h4 ⟨rfl, _, w.H, I.tok _, ry, q _ r2⟩) hsub
  · cases hg
/-- k in d -/
theorem in_run (neg : Bool) (hu : X.A.units + 64 < cLine) (I : L2.Inv X pins σ w.H s) (rs : RS X.K w S) {i : Nat} {kvs : List (D × D)} (h : S[i]? = some (.dct kvs)) {d : D} {v : V} {u : Value} (rd : RD X.K w d v) (ru : RelV v u) {k : NestedKey} (hk : nkey d = some k) {Q : VK}
    (q : Q (.bl ((dGet kvs d).isSome != neg)) w.H) : wpAny (model X.prog X.w) X.A (compareOp (if neg = true then .NotIn else .In) u (.ref (w.φ i))) (EP X pins σ Q) X.xe s := by
  obtain ⟨⟨ds, rfl⟩, hnk, hdep⟩ := nkey_nk hk
  obtain ⟨xs, ys, hH, rk, rxy, dd, hs, hz⟩ := dct_at I rs h
  have kk := key_at I rd ru hnk
  have e : (dGet kvs (.tup ds)).isSome = (atKey ys k).isSome := by
    unfold dGet
    rw [hk]
    simp only
    rcases rk_find rk k with ⟨h1, h2⟩ | ⟨d2, e2, a, y, h1, h2, r2⟩
    · rcases xy_find rxy k with ⟨h3, h4⟩ | ⟨a', y', u', h3, h4, ry⟩
      · rw [h1, h4]
        rfl
      · rw [h2] at h3
        cases h3
    · rcases xy_find rxy k with ⟨h3, h4⟩ | ⟨a', y', u', h3, h4, ry⟩
      · rw [h2] at h3
        cases h3
      · rw [h1, h4]
        rfl
  rw [e] at q
  cases rd with
  | tup t1 t2 t3 =>
    cases ru
    have rm : (nestedKind X.prog X.w).room X.A.in1 := by
      show X.A.in1.units + 8 < cLine
      rw [Around.in1_units]
      omega
    cases neg with
    | false => exact wpAny_in_heap (knd := nestedKind X.prog X.w) rm ⟨kk, hdep⟩ hs dd ⟨.bl _, w.H, I.tok _, rfl, by simpa using q⟩
    | true =>
      refine notIn_keyed (knd := nestedKind X.prog X.w) rm ⟨kk, hdep⟩ hs ⟨ys, dd, rfl⟩ ?_
      rw [valueAt_pairsH]
      refine ⟨.bl _, w.H, I.tok _, rfl, ?_⟩
      simpa using q
/-- d[k] = e -/
theorem put_run (hu : X.A.units + 64 < cLine) (I : L2.Inv X pins σ w.H s) (rs : RS X.K w S) {i : Nat} {kvs : List (D × D)} (h : S[i]? = some (.dct kvs)) {d e : D} {v y : V} {u uy : Value} (rd : RD X.K w d v) (ru : RelV v u) (re : RD X.K w e y) (ry : RelV y uy) {k : NestedKey} (hk : nkey d = some k) (hl : kvs.length < sizeLine)
    {Q : Hp → Prop} (q : ∀ w', RS X.K w' (S.set i (.dct (dPut kvs d e))) → Step w w' → Q w'.H) : wpAny (model X.prog X.w) X.A (setItem (.ref (w.φ i)) u uy) (fun _ s' => ∃ H', L2.Inv X pins σ H' s' ∧ Q H') X.xe s := by
  obtain ⟨⟨ds, rfl⟩, hnk, hdep⟩ := nkey_nk hk
  obtain ⟨xs, ys, hH, rk, rxy, dd, hs, hz⟩ := dct_at I rs h
  have kk := key_at I rd ru hnk
  have hi := rs.lt h
  cases rd with
  | @tup p vs _ t1 t2 t3 =>
    cases ru
    have rm : (nestedKind X.prog X.w).room X.A.in1 := by
      show X.A.in1.units + 8 < cLine
      rw [Around.in1_units]
      omega
    have rd' : RD X.K w (.tup ds) (.ref p) := .tup t1 t2 t3
    have rk2 := rk_put rk hk rd' re
    have ry2 := xy_put rxy k p ry
    have lx : (xPut xs k p y).length ≤ sizeLine := by
      have h1 := rk.length
      unfold xPut
      split
      · rw [List.length_map]
        omega
      · rw [List.length_append, List.length_singleton]
        omega
    refine wpAny_setItem_heap (knd := nestedKind X.prog X.w) (hsz := hz) rm ⟨kk, hdep⟩ dd fun h' dd' sb => ?_
    have ok : ObjOk X.prog X.w (upd w.H (w.φ i) (dctO (w.φ i) (xPut xs k p y))) h' (w.φ i) (dctO (w.φ i) (xPut xs k p y)) := dct_ok hs lx ry2 (rk_hash (P := X.w) rk2) dd'
    have he : ∃ z, h'.get? (w.φ i) = some z := by
      obtain ⟨o, _, _, ho, _⟩ := dd'
      exact ⟨o, ho⟩
    refine ⟨_, I.write (e := w.φ i) (t' := s.toks + (nestedKind X.prog X.w).draws k) (by rw [hH]; trivial) (.inl rfl) (fun b z hb hz => (sb.2 b hb).trans hz) he ok, ?_⟩
    exact q (w.put (w.φ i) _) (rs.turnO hi ⟨_, rfl, by
      have h1 := rk2.length
      omega, rk2⟩) (turn_step rs hi)
/-- {} that changes -/
theorem dct_new (h : Heap) (hb : (h.objs.size == sysModules) = false) {P : Program} {W : World} {H : Hp} : ObjOk P W H (h.push { cls := .type "dict", data := .dict #[] }) h.objs.size (dctO h.objs.size []) :=
  dct_ok hb (Nat.zero_le _) .nil (fun x hx => by cases hx) (Heap.DictOfH.new h)
end
end Pv

/-! More operations, by data. -/
namespace Pv
open PySem L2 PySem.Spec PyProof.Rows
variable {K : PySem.W.Frag} {w : Wd} {S : Store}
/-! ### in -/
def inD (neg : Bool) : O2 := fun d e S Q => (∃ xs a as, seqX S e = some xs ∧ py d = some a ∧ pys xs = some as ∧ SeqAt.shaped a = true ∧ PyData.canLayAll0 as = true ∧ Q (.bl ((as.any fun y => PyData.eqv y a) != neg)) S) ∨ ∃ kvs k, dctL S e = some kvs ∧ nkey d = some k ∧ Q (.bl ((dGet kvs d).isSome != neg)) S
theorem dctL_at {K : PySem.W.Frag} {w : Wd} {S : Store} {d : D} {v : V} {kvs : List (D × D)} (rd : RD K w d v) (h : dctL S d = some kvs) : ∃ i, v = .ref (w.φ i) ∧ S[i]? = some (.dct kvs) ∧ d = .loc i := by
  cases rd with
  | @loc i hi =>
    unfold dctL at h
    simp only at h
    split at h
    · cases h
      exact ⟨i, rfl, by assumption, rfl⟩
    · cases h
  | _ => cases h
section
variable {X : Cx}
theorem op_inQ (hu : X.A.units + 65 < cLine) : OpR X (compareOp .In) (u2 X.K (inD false)) := by
  rintro pins s σ H x y v u Q I rx ry ⟨w, S, d, e, Q0, rfl, rs, rd, re, ⟨xs, a, as, hx, ha, has, sa, la, q⟩ | ⟨kvs, k0, hx, hk, q⟩, k⟩
  rotate_left
  · obtain ⟨i, rfl, hi, rfl⟩ := dctL_at re hx
    cases ry
    exact in_run false (by omega) I rs hi rd rx hk (k _ S w _ q (Step.refl _) rs (.bl _))
  obtain ⟨p, vs, rfl, hs, t, _⟩ := seqX_at rs re hx
  rw [Bool.bne_false] at q
  obtain ⟨b1, r1⟩ := Dp.reads I a x v (py_dp rd ha) rx
  rcases hs with hs | hs
  · obtain ⟨b2, r2⟩ := Dp.reads I (.list as) _ u (.lst hs (pys_dp t has)) ry
    exact SeqAt.in_list_reads r2 r1 la (SeqAt.canLay_of_shaped sa) (room_in_shaped sa hu) ⟨.bl _, w.H, I, rfl, k _ S w _ q (Step.refl _) rs (.bl _)⟩
  · obtain ⟨b2, r2⟩ := Dp.reads I (.tuple as) _ u (.tup hs (pys_dp t has)) ry
    exact SeqAt.in_tuple_reads r2 r1 la (SeqAt.canLay_of_shaped sa) (room_in_shaped sa hu) ⟨.bl _, w.H, I, rfl, k _ S w _ q (Step.refl _) rs (.bl _)⟩
theorem op_notInQ (hu : X.A.units + 65 < cLine) : OpR X (compareOp .NotIn) (u2 X.K (inD true)) := by
  rintro pins s σ H x y v u Q I rx ry ⟨w, S, d, e, Q0, rfl, rs, rd, re, ⟨xs, a, as, hx, ha, has, sa, la, q⟩ | ⟨kvs, k0, hx, hk, q⟩, k⟩
  rotate_left
  · obtain ⟨i, rfl, hi, rfl⟩ := dctL_at re hx
    cases ry
    exact in_run true (by omega) I rs hi rd rx hk (k _ S w _ q (Step.refl _) rs (.bl _))
  obtain ⟨p, vs, rfl, hs, t, _⟩ := seqX_at rs re hx
  rw [Bool.bne_true] at q
  obtain ⟨b1, r1⟩ := Dp.reads I a x v (py_dp rd ha) rx
  rcases hs with hs | hs
  · obtain ⟨b2, r2⟩ := Dp.reads I (.list as) _ u (.lst hs (pys_dp t has)) ry
    exact SeqAt.notIn_list_reads r2 r1 la (SeqAt.canLay_of_shaped sa) (room_in_shaped sa hu) ⟨.bl _, w.H, I, rfl, k _ S w _ q (Step.refl _) rs (.bl _)⟩
  · obtain ⟨b2, r2⟩ := Dp.reads I (.tuple as) _ u (.tup hs (pys_dp t has)) ry
    exact SeqAt.notIn_tuple_reads r2 r1 la (SeqAt.canLay_of_shaped sa) (room_in_shaped sa hu) ⟨.bl _, w.H, I, rfl, k _ S w _ q (Step.refl _) rs (.bl _)⟩
/-! ### - -/
def negD : O1 := fun d S Q => ∃ i, d = .int i ∧ Q (.int (-i)) S
theorem un_negD : UnR X (unaryOp .USub) (u1 X.K negD) := by
  rintro pins s σ H x v Q I rx ⟨w, S, d, Q0, rfl, rs, rd, ⟨i, rfl, q⟩, k⟩
  cases rd
  exact un_neg pins s σ w.H _ v Q I rx ⟨i, rfl, k _ S w _ q (Step.refl _) rs (.int _)⟩

/-! ### built-ins by their names -/
def lenD : OL := fun ds S Q => ∃ d xs, ds = [d] ∧ ((seqX S d = some xs ∧ Q (.int xs.length) S) ∨ ∃ z, d = .str z ∧ z.length ≤ sizeLine ∧ Q (.int z.length) S)
theorem call_lenQ : CallR X (.builtin "len") (uL X.K lenD) := by
  rintro pins s σ H xs us Q I r ⟨w, S, ds, Q0, rfl, rs, rd, ⟨d, ys, rfl, h⟩, k⟩
  cases rd with
  | cons rd rn =>
    cases rn
    rcases h with ⟨h, q⟩ | ⟨z, rfl, hz, q⟩
    · obtain ⟨p, vs, rfl, hs, t, _⟩ := seqX_at rs rd h
      refine call_len_seq pins s σ w.H _ us Q I r ⟨p, vs, rfl, hs, ?_⟩
      rw [← t.length]
      exact k _ S w _ q (Step.refl _) rs (.int _)
    · cases rd
      exact call_len_str pins s σ w.H _ us Q I r ⟨z, rfl, hz, k _ S w _ q (Step.refl _) rs (.int _)⟩
def absD : OL := fun ds S Q => ∃ i, ds = [.int i] ∧ Q (.int (if i < 0 then -i else i)) S
theorem call_absQ : CallR X (.builtin "abs") (uL X.K absD) := by
  rintro pins s σ H xs us Q I r ⟨w, S, ds, Q0, rfl, rs, rd, ⟨i, rfl, q⟩, k⟩
  cases rd with
  | cons rd rn =>
    cases rn
    cases rd
    exact call_abs pins s σ w.H _ us Q I r ⟨i, rfl, k _ S w _ q (Step.refl _) rs (.int _)⟩
def intC : OL := fun ds S Q => (∃ i, ds = [.int i] ∧ Q (.int i) S) ∨ ∃ b, ds = [.bl b] ∧ Q (.int (if b then 1 else 0)) S
theorem call_intQ : CallR X (.type "int") (uL X.K intC) := by
  rintro pins s σ H xs us Q I r ⟨w, S, ds, Q0, rfl, rs, rd, h, k⟩
  rcases h with ⟨i, rfl, q⟩ | ⟨b, rfl, q⟩
  · cases rd with
    | cons rd rn =>
      cases rn
      cases rd
      exact call_int1 pins s σ w.H _ us Q I r (.inl ⟨i, rfl, k _ S w _ q (Step.refl _) rs (.int _)⟩)
  · cases rd with
    | cons rd rn =>
      cases rn
      cases rd
      exact call_int1 pins s σ w.H _ us Q I r (.inr ⟨b, rfl, k _ S w _ q (Step.refl _) rs (.int _)⟩)
def minD (mx : Bool) : OL := fun ds S Q => ∃ i j, ds = [.int i, .int j] ∧ Q (.int (if mx then (if j > i then j else i) else if j < i then j else i)) S
theorem call_minQ (hc : X.calm = true) : CallR X (.builtin "min") (uL X.K (minD false)) := by
  rintro pins s σ H xs us Q I r ⟨w, S, ds, Q0, rfl, rs, rd, ⟨i, j, rfl, q⟩, k⟩
  cases rd with
  | cons rd rn =>
    cases rn with
    | cons re rn =>
      cases rn
      cases rd
      cases re
      exact call_min2 hc pins s σ w.H _ us Q I r ⟨i, j, rfl, k _ S w _ q (Step.refl _) rs (.int _)⟩
theorem call_maxQ (hc : X.calm = true) : CallR X (.builtin "max") (uL X.K (minD true)) := by
  rintro pins s σ H xs us Q I r ⟨w, S, ds, Q0, rfl, rs, rd, ⟨i, j, rfl, q⟩, k⟩
  cases rd with
  | cons rd rn =>
    cases rn with
    | cons re rn =>
      cases rn
      cases rd
      cases re
      exact call_max2 hc pins s σ w.H _ us Q I r ⟨i, j, rfl, k _ S w _ q (Step.refl _) rs (.int _)⟩
def tupleC : OL := fun ds S Q => ∃ d xs, ds = [d] ∧ seqX S d = some xs ∧ Q (.tup xs) S
theorem call_tupleQ : CallR X (.type "tuple") (uL X.K tupleC) := by
  rintro pins s σ H xs us Q I r ⟨w, S, ds, Q0, rfl, rs, rd, ⟨d, ys, rfl, h, q⟩, k⟩
  cases rd with
  | cons rd rn =>
    cases rn
    have rd' := id rd
    obtain ⟨p, vs, rfl, hs, t, l⟩ := seqX_at rs rd h
    rcases hs with hs | hs
    · exact call_tuple_of pins s σ w.H _ us Q I r ⟨p, vs, rfl, .inl ⟨hs, fun a ha => fresh_kT k rs q l t a ha⟩⟩
    · by_cases e : ∃ zs, d = .tup zs
      · obtain ⟨zs, rfl⟩ := e
        cases h
        exact call_tuple_of pins s σ w.H _ us Q I r ⟨p, vs, rfl, .inr ⟨hs, k _ S w _ q (Step.refl _) rs rd'⟩⟩
      · have h' : seqL S d = some ys := by
          cases d <;> first | exact h | exact absurd ⟨_, rfl⟩ e
        obtain ⟨p2, us2, e2, hs2, t2, l2⟩ := seqL_at rs rd' h'
        cases e2
        exact call_tuple_of pins s σ w.H _ us Q I r ⟨p, us2, rfl, .inl ⟨hs2, fun a ha => fresh_kT k rs q l2 t2 a ha⟩⟩
/-- what list(x) goes over -/
def keyX (S : Store) (d : D) : Option (List D) := match seqX S d with
  | some xs => some xs
  | none => (dctL S d).map fun kvs => kvs.map (·.1)
/-- list(x): a new one that stays as it is, or a new place -/
def listC (fix : Bool) : OL := fun ds S Q => ∃ d xs, ds = [d] ∧ keyX S d = some xs ∧ if fix = true then Q (.lst xs) S else Q (.loc S.length) (S ++ [.lst xs])
theorem rk_rds {kvs : List (D × D)} {xs : List (NestedKey × Addr × V)} (r : RKs K w kvs xs) : RDs K w (kvs.map (·.1)) (xs.map fun x => V.ref x.2.1) := by
  induction r with
  | nil => exact .nil
  | cons h r1 r2 t ih => exact .cons r1 ih
theorem xy_vals {xs : List (NestedKey × Addr × V)} {ys : List (NestedKey × Addr × Value)} (r : XY xs ys) : Vals (xs.map fun x => V.ref x.2.1) (ys.map fun y => Value.ref y.2.1) := by
  induction r with
  | nil => exact .nil
  | cons h t ih => exact .cons (by show Value.ref _ = Value.ref _; rw [h.2.1]) ih
theorem call_listQ (hc : X.calm = true) (fix : Bool) : CallR X (.type "list") (uL X.K (listC fix)) := by
  rintro pins s σ H xs us Q I r ⟨w, S, ds, Q0, rfl, rs, rd, ⟨d, ys, rfl, h, q⟩, k⟩
  cases rd with
  | cons rd rn =>
    cases rn
    unfold keyX at h
    split at h
    · rename_i xs hx
      cases h
      obtain ⟨p, vs, rfl, hs, t, l⟩ := seqX_at rs rd hx
      refine call_list_of pins s σ w.H _ us Q I r ⟨p, vs, rfl, hs, fun a ha => ?_⟩
      cases fix with
      | true => exact fresh_k (d := .non) k rs q l t a ha
      | false =>
        rw [if_neg Bool.false_ne_true, rs.len] at q
        exact k _ _ (w.add a _) _ q (add_step rs ha) (rs.add ha l t) add_rd
    · obtain ⟨kvs, hk, rfl⟩ := Option.map_eq_some_iff.mp h
      obtain ⟨i, rfl, hi, rfl⟩ := dctL_at rd hk
      obtain ⟨u, rfl, rx⟩ := r.one
      cases rx
      obtain ⟨xs, zs, hH, rk, rxy, ⟨o, es, ep, ho, hx, hdt, he, _, _⟩, hs, hz⟩ := dct_at I rs hi
      have l1 : es.size = zs.length := by
        have := congrArg List.length he
        rw [Array.length_toList, List.length_map] at this
        exact this
      refine PySem.W.kdl_call (kdl_raw hs hx hdt) (I.ok.hd hc) ho (by omega) fun h' tk acc' c' kp e it => ?_
      have ea : acc'.toList = zs.map fun y => Value.ref y.2.1 := by
        have hl : acc'.toList.length = zs.length := by rw [Array.length_toList, it.1]; exact l1
        apply List.ext_getElem?
        intro j
        rw [List.getElem?_map]
        cases hj : acc'.toList[j]? with
        | none =>
          have h1 := List.getElem?_eq_none_iff.mp hj
          rw [List.getElem?_eq_none (by omega)]
          rfl
        | some v =>
          obtain ⟨en, hen, hv⟩ := it.2 j v (by rw [← Array.getElem?_toList]; exact hj)
          have qe : es.toList[j]? = some en := by rw [Array.getElem?_toList]; exact hen
          rw [he, List.getElem?_map] at qe
          cases hb : zs[j]? with
          | none =>
            rw [hb] at qe
            cases qe
          | some b =>
            rw [hb] at qe
            cases qe
            rw [hv]
            rfl
      have rv : Vals (xs.map fun x => V.ref x.2.1) acc'.toList := by
        rw [ea]
        exact xy_vals rxy
      have t := rk_rds rk
      have l : (kvs.map (·.1)).length ≤ sizeLine := by
        have h1 := rk.length
        have h2 := congrArg List.length (xy_keys rxy)
        simp only [List.length_map] at h2 ⊢
        omega
      have fr : ∀ p, w.H p = none → Q (.ref p) (upd w.H p (.lst (xs.map fun x => V.ref x.2.1))) := fun a ha => by
        cases fix with
        | true => exact fresh_k (d := .non) k rs q l t a ha
        | false =>
          rw [if_neg Bool.false_ne_true, rs.len] at q
          exact k _ _ (w.add a _) _ q (add_step rs ha) (rs.add ha l t) add_rd
      refine ⟨.ref s.heap.objs.size, _, I.laid (t' := tk) (o := .lst (xs.map fun x => V.ref x.2.1)) kp (Nat.le_refl _) ?_, rfl, fr _ (I.hok.fresh (Nat.le_refl _))⟩
      exact ⟨by rw [List.length_map]; have := congrArg List.length (xy_keys rxy); simp only [List.length_map] at this; omega, acc'.toList, c', rv, by rw [Array.toArray_toList]; exact e⟩
/-! ### isinstance of the built-in classes -/
def tyN (S : Store) : D → Option String
  | .non => some "NoneType"
  | .bl _ => some "bool"
  | .int _ => some "int"
  | .str _ => some "str"
  | .tup _ => some "tuple"
  | .lst _ => some "list"
  | .emp => some "dict"
  | .loc i => match S[i]? with
    | some (.lst _) => some "list"
    | _ => none
theorem tyx {d : D} {v : V} {n : String} (rs : RS K w S) (r : RD K w d v) (h : tyN S d = some n) : TyX K w.H v (.type n) := by
  cases r with
  | non => cases h; exact .base .non
  | bl b => cases h; exact .base (.bl b)
  | int b => cases h; exact .base (.int b)
  | str b => cases h; exact .base (.str b)
  | tup h1 _ _ =>
    cases h
    rcases h1.sq with (q | ⟨o, q⟩) | ⟨o, _, _, q, c, _⟩
    · exact .base (.tup q)
    · exact .fTuple q
    · exact .kTuple q c
  | lst h1 _ _ =>
    cases h
    rcases h1.sq with (q | ⟨o, q⟩) | ⟨o, _, _, q, c, _⟩
    · exact .base (.lst q)
    · exact .base (.frz q)
    · exact .kList q c
  | emp q _ => cases h; exact .base (.dK q)
  | @loc i hi =>
    unfold tyN at h
    simp only at h
    split at h
    · rename_i ys e2
      cases h
      obtain ⟨vs, q, _, _⟩ := rs.lst i _ e2
      exact .base (.lst q)
    · cases h
def isiB (n c : String) : Bool := n == c || (n == "bool" && c == "int")
theorem kit_all {n c : String} (hn : n ∈ ["NoneType", "bool", "int", "str", "tuple", "list", "dict"]) (hc : c ∈ ["bool", "int", "str", "tuple", "list", "dict"]) : kitB n c = some (isiB n c) := by
  have q : (["NoneType", "bool", "int", "str", "tuple", "list", "dict"].all fun n => ["bool", "int", "str", "tuple", "list", "dict"].all fun c => decide (kitB n c = some (isiB n c))) = true := by decide +kernel
  rw [List.all_eq_true] at q
  have q1 := q n hn
  rw [List.all_eq_true] at q1
  exact of_decide_eq_true (q1 c hc)
theorem tyN_mem {d : D} {n : String} (h : tyN S d = some n) : n ∈ ["NoneType", "bool", "int", "str", "tuple", "list", "dict"] := by
  cases d with
  | loc i =>
    unfold tyN at h
    simp only at h
    split at h
    · cases h
      simp
    · cases h
  | _ => cases h; simp
def isiD (c : String) : O1 := fun d S Q => ∃ n, tyN S d = some n ∧ Q (.bl (isiB n c)) S
theorem call_isiQ {c : String} (hc : c ∈ ["bool", "int", "str", "tuple", "list", "dict"]) : CallR X (.builtin "isinstance") (fun xs H Q => ∃ x, xs = [x, .ty c] ∧ u1 X.K (isiD c) x H Q) := by
  rintro pins s σ H xs us Q I r ⟨x, rfl, w, S, d, Q0, rfl, rs, rd, ⟨n, hn, q⟩, k⟩
  exact call_isi pins s σ w.H _ us Q I r ⟨x, .ty c, .type n, .type c, _, rfl, .ty c, tyx rs rd hn, kit_ty (kit_all (tyN_mem hn) hc), k _ S w _ q (Step.refl _) rs (.bl _)⟩
/-! ### places -/
def ixD : O2 := fun d e S Q => (∃ kvs y, dctL S d = some kvs ∧ dGet kvs e = some y ∧ Q y S) ∨ ∃ i, e = .int i ∧ ((∃ xs x, seqX S d = some xs ∧ atI xs i = some x ∧ Q x S) ∨ ∃ z c, d = .str z ∧ z.length ≤ sizeLine ∧ atI z.cps.toList i = some c ∧ Q (.str ⟨#[c]⟩) S)
theorem atI_rd {ds : List D} {vs : List V} {i : Int} {x : D} (t : RDs K w ds vs) (h : atI ds i = some x) : ∃ v, atI vs i = some v ∧ RD K w x v := by
  unfold atI at h ⊢
  rw [Option.bind_eq_some_iff] at h
  obtain ⟨j, hj, hx⟩ := h
  obtain ⟨v, hv, r⟩ := t.get hx
  refine ⟨v, ?_, r⟩
  rw [← t.length, hj]
  exact hv
theorem ix_all (hu : X.A.units + 64 < cLine) : IxR X (u2 X.K ixD) := by
  rintro value slice pins s σ H x y v u Q I rx ry ⟨w, S, d, e, Q0, rfl, rs, rd, re, ⟨kvs, y, hx, hg, q⟩ | ⟨i, rfl, h⟩, k⟩ hs
  · obtain ⟨i, rfl, hi, rfl⟩ := dctL_at rd hx
    cases rx
    exact get_run hu I rs hi re ry hg (fun z rz => k _ S w _ q (Step.refl _) rs rz) value slice hs
  cases re
  rcases h with ⟨xs, z, hx, hz, q⟩ | ⟨z, c, rfl, hl, hz, q⟩
  · obtain ⟨p, vs, rfl, hq, t, _⟩ := seqX_at rs rd hx
    obtain ⟨zv, hzv, rz⟩ := atI_rd t hz
    rcases hq with hq | hq
    · exact ix_list value slice pins s σ w.H _ _ v u Q I rx ry ⟨p, vs, i, zv, rfl, rfl, hq, hzv, k _ S w _ q (Step.refl _) rs rz⟩ hs
    · exact ix_tup value slice pins s σ w.H _ _ v u Q I rx ry ⟨p, vs, i, zv, rfl, rfl, hq, hzv, k _ S w _ q (Step.refl _) rs rz⟩ hs
  · cases rd
    exact ix_str value slice pins s σ w.H _ _ v u Q I rx ry ⟨z, i, c, rfl, rfl, hl, hz, k _ S w _ q (Step.refl _) rs (.str _)⟩ hs
/-- a list's place set -/
def setD (S : Store) (o i v : D) (Q : Store → Prop) : Prop := (∃ p kvs k, o = .loc p ∧ S[p]? = some (.dct kvs) ∧ nkey i = some k ∧ kvs.length < sizeLine ∧ Q (S.set p (.dct (dPut kvs i v)))) ∨ ∃ p xs n j, o = .loc p ∧ i = .int n ∧ S[p]? = some (.lst xs) ∧ ixN xs.length n = some j ∧ Q (S.set p (.lst (xs.set j v)))
def uSet (K : PySem.W.Frag) : V → V → V → Hp → (Hp → Prop) → Prop := fun o i v H Q => ∃ w S d e f Q0, w.H = H ∧ RS K w S ∧ RD K w d o ∧ RD K w e i ∧ RD K w f v ∧ setD S d e f Q0 ∧ ∀ S' w', Q0 S' → Step w w' → RS K w' S' → Q w'.H
theorem set_all (hu : X.A.units + 64 < cLine) : PSet X (uSet X.K) := by
  rintro pins s σ H o i v ov iv u Q I ro ri rv ⟨w, S, d, e, f, Q0, rfl, rs, rd, re, rf, ⟨p, kvs, k0, rfl, hp, hk, hl, q⟩ | ⟨p, xs, n, j, rfl, rfl, hp, hj, q⟩, k⟩
  · cases rd with
    | loc hi =>
      cases ro
      exact put_run hu I rs hp re ri rf rv hk hl fun w' rs' st => k _ w' q st rs'
  cases rd with
  | loc hi =>
    cases re
    obtain ⟨vs, h, l, t⟩ := rs.lst p xs hp
    refine set_list pins s σ w.H _ _ v ov iv u Q I ro ri rv ⟨_, vs, n, j, rfl, rfl, h, by rw [← t.length]; exact hj, ?_⟩
    exact k _ (w.put (w.φ p) _) q (turn_step rs hi) (rs.turn hi (by rw [List.length_set]; exact l) (t.set rf j))
/-! ### methods that change a list -/
def appD : D → List D → Store → QE → Prop := fun o vs S Q => ∃ p xs y, o = .loc p ∧ vs = [y] ∧ S[p]? = some (.lst xs) ∧ xs.length < sizeLine ∧ Q .non (S.set p (.lst (xs ++ [y])))
def uM (K : PySem.W.Frag) (o : D → List D → Store → QE → Prop) : V → List V → Hp → VK → Prop := fun x vs H Q => ∃ w S d ds Q0, w.H = H ∧ RS K w S ∧ RD K w d x ∧ RDs K w ds vs ∧ o d ds S Q0 ∧ KtE K w Q0 Q
theorem mt_appQ : MtR X "list.append" (uM X.K appD) := by
  rintro pins s σ H x vs v us Q I rx rv ⟨w, S, d, ds, Q0, rfl, rs, rd, rds, ⟨p, xs, y, rfl, rfl, hp, hz, q⟩, k⟩
  cases rd with
  | loc hi =>
    cases rds with
    | cons ry rn =>
      cases rn
      obtain ⟨us', h, l, t⟩ := rs.lst p xs hp
      refine mt_append pins s σ w.H _ _ v us Q I rx rv ⟨_, us', _, rfl, rfl, h, by rw [← t.length]; exact hz, ?_⟩
      exact k _ _ (w.put (w.φ p) _) _ q (turn_step rs hi) (rs.turn hi (by rw [List.length_append]; exact hz) (t.append (.cons ry .nil))) .non
/-- list.pop() -/
def popD : D → List D → Store → QE → Prop := fun o vs S Q => ∃ p xs y, o = .loc p ∧ vs = [] ∧ S[p]? = some (.lst (xs ++ [y])) ∧ Q y (S.set p (.lst xs))
theorem mt_popQ : MtR X "list.pop" (uM X.K popD) := by
  rintro pins s σ H x vs v us Q I rx rv ⟨w, S, d, ds, Q0, rfl, rs, rd, rds, ⟨p, xs, y, rfl, rfl, hp, q⟩, k⟩
  cases rd with
  | loc hi =>
    cases rds
    obtain ⟨us', h, l, t⟩ := rs.lst p _ hp
    have hl : us'.length = xs.length + 1 := by
      have := t.length
      rw [List.length_append, List.length_singleton] at this
      exact this.symm
    obtain ⟨yv, hy, ry⟩ := t.get (i := xs.length) (d := y) (by simp)
    refine mt_pop pins s σ w.H _ _ v us Q I rx rv ⟨_, us', yv, rfl, rfl, h, by rw [hl]; simpa using hy, ?_⟩
    have t2 : RDs X.K w xs us'.dropLast := by
      have := t.dropLast
      simpa using this
    rw [List.length_append, List.length_singleton] at l
    exact k _ _ (w.put (w.φ p) _) _ q (turn_step rs hi) (rs.turn hi (by omega) t2) (ry.step (turn_step rs hi))
theorem list_extend_sl (l : Addr) (items : Array Value) (n : Nat) (b : Addr) (items2 : Array Value) (n2 : Nat) (sl : Array (Option Value)) (hc0 : ¬(!items.isEmpty && Builtin.List.listTooLong (items.size + items2.size)) = true) (hc1 : items.size ≤ sizeLine) (hs2 : items.size + items2.size ≤ sizeLine + 1) :
    Meets (Builtin.«list.extend» ⟨[.ref l, .ref b], []⟩) (fun _ R s => s.heap.get? l = some { cls := .type "list", dict := none, data := .seq items n, slots := #[] } ∧ s.heap.get? b = some { cls := .type "list", dict := none, data := .seq items2 n2, slots := sl } ∧ R (.ok (.ret Value.none)) { s with heap := s.heap.update l (Obj.mapSeq fun x => x ++ items2), toks := s.toks }) :=
  .of_wp fun prog w A R s h => by
    obtain ⟨hp, g, d, tk, os⟩ := s; obtain ⟨hl, hb, h⟩ := h; have f1 := AutoSeq1.idx_int; have f2 := AutoSeq1.sub_tuple_tuple; have f3 := AutoSeq1.sub_list_list; have f4 := AutoSeq1.sub_tuple_list; have f5 := AutoSeq1.sub_list_tuple;
    have hz' : (items ++ items2).size ≤ sizeLine + 1 := by rw [Array.size_append]; exact hs2
    wp_walk using (wpAny_updateSeq hl rfl (hz := hc1) (_hz' := hz')), wpAny_loadPart' hl, wpAny_loadPart' hb; exact ⟨_, rfl, h⟩
/-- list.extend(list) -/
def extD : D → List D → Store → QE → Prop := fun o vs S Q => ∃ p xs ys, o = .loc p ∧ vs = [.lst ys] ∧ S[p]? = some (.lst xs) ∧ xs.length + ys.length ≤ sizeLine ∧ Q .non (S.set p (.lst (xs ++ ys)))
theorem mt_extQ : MtR X "list.extend" (uM X.K extD) := by
  rintro pins s σ H x vs v us Q I rx rv ⟨w, S, d, ds, Q0, rfl, rs, rd, rds, ⟨p, xs, ys, rfl, rfl, hp, hz, q⟩, k⟩
  cases rd with
  | loc hi =>
    cases rds with
    | cons ry rn =>
      cases rn
      obtain ⟨us', h, l, t⟩ := rs.lst p _ hp
      cases ry with
      | @lst b zs _ h1 h2 h3 =>
        cases rx
        obtain ⟨u, rfl, ru⟩ := rv.one
        cases ru
        obtain ⟨z, its, n, r, hl, e⟩ := I.lstM h
        obtain ⟨its2, r2, ⟨⟨cls, dd, data, sl⟩, n2, e2, hc, hd, hda⟩, hl2⟩ := I.list h1.sq
        simp only at hc hd hda
        subst hc hd hda
        have lz := h3.length
        have lx := t.length
        have e3 := r2.length
        have e4 := r.length
        have hsz : its.toArray.size + its2.toArray.size ≤ sizeLine := by
          rw [List.size_toArray, List.size_toArray]
          omega
        have hlong : ¬ (!its.toArray.isEmpty && Builtin.List.listTooLong (its.toArray.size + its2.toArray.size)) = true := by
          rw [notLongL hsz, Bool.and_false]
          exact Bool.false_ne_true
        refine call_meets F.slot_list_extend ⟨_, e, rfl⟩ F.entry_list_extend (F.args_list_extend_2 _ _)
          (list_extend_sl _ its.toArray n b its2.toArray n2 sl hlong (by omega) (by omega)) ⟨e, e2, ?_⟩
        refine ⟨.non, _, I.lset (ys := us' ++ zs) (its' := its ++ its2) h e (by simp) (r.append r2) ?_, rfl, ?_⟩
        · rw [List.length_append]
          omega
        · exact k _ _ (w.put (w.φ p) _) _ q (turn_step rs hi) (rs.turn hi (by rw [List.length_append]; exact hz) (t.append h3)) .non
end
end Pv

/-! Slices, texts, repr. -/
namespace Pv
open PySem L2 PySem.Spec PyProof.Rows
variable {K : PySem.W.Frag} {w : Wd} {S : Store}
/-! ### slices -/
def cutD (xs : List D) (lo hi : Option Int) : List D := (xs.drop (HT.sIx xs.length 0 lo)).take (HT.sIx xs.length xs.length hi - HT.sIx xs.length 0 lo)
theorem cutD_len (xs : List D) (lo hi : Option Int) : (cutD xs lo hi).length ≤ xs.length := by
  unfold cutD
  rw [List.length_take, List.length_drop]
  omega
theorem cutD_whole (xs : List D) (lo hi : Option Int) (h : HT.sIx xs.length 0 lo = 0 ∧ HT.sIx xs.length xs.length hi = xs.length) : cutD xs lo hi = xs := by
  unfold cutD
  rw [h.1, h.2, List.drop_zero, Nat.sub_zero, List.take_length]
theorem cut_rds {xs : List D} {vs : List V} (t : RDs K w xs vs) (lo hi : Option Int) : RDs K w (cutD xs lo hi) (cutV vs lo hi) := by
  unfold cutD cutV
  rw [t.length]
  exact (t.drop _).take _
def slD (d : D) (lo hi : Option Int) (S : Store) (Q : QE) : Prop := match d with
  | .str z => z.length ≤ sizeLine ∧ Q (.str (cutS z lo hi)) S
  | .tup xs => Q (.tup (cutD xs lo hi)) S
  | d => ∃ xs, seqL S d = some xs ∧ Q (.lst (cutD xs lo hi)) S
def uSl (K : PySem.W.Frag) : V → Option Int → Option Int → Hp → VK → Prop := fun x lo hi H Q => ∃ w S d Q0, w.H = H ∧ RS K w S ∧ RD K w d x ∧ slD d lo hi S Q0 ∧ KtE K w Q0 Q
abbrev WO := Env → Store → (Option Int → Store → Prop) → Prop
def KtO (K : PySem.W.Frag) (w : Wd) (Q0 : Option Int → Store → Prop) (Q : Option Int → Hp → Prop) : Prop := ∀ o S' w', Q0 o S' → Step w w' → RS K w' S' → Q o w'.H
def uO (K : PySem.W.Frag) (t : WO) : TO := fun σ H Q => ∃ w S ρ Q0, w.H = H ∧ RS K w S ∧ RE K w ρ σ ∧ t ρ S Q0 ∧ KtO K w Q0 Q
def wNone : WO := fun _ S Q => Q none S
def wSome (t : WE) : WO := fun ρ S Q => t ρ S fun x S1 => ∃ i, x = .int i ∧ Q (some i) S1
section
variable {X : Cx} {e : Expr} {ta : WE} {pos p2 : Pos} {lo hi : Option Expr} {tl th : WO}
theorem sl_all : SlR X (uSl X.K) := by
  rintro pins s σ H x v vl vu lo hi sl Q I rx hs pl pu ⟨w, S, d, Q0, rfl, rs, rd, h, k⟩
  unfold slD at h
  split at h
  · cases rd
    exact sl_str pins s σ w.H _ v vl vu lo hi sl Q I rx hs pl pu ⟨_, rfl, h.1, k _ S w _ h.2 (Step.refl _) rs (.str _)⟩
  · rename_i xs
    have rd' := id rd
    cases rd with
    | @tup p vs ds h1 h2 h3 =>
      refine sl_tupA pins s σ w.H _ v vl vu lo hi sl Q I rx hs pl pu ⟨p, vs, rfl, h1.sq, fun e => ?_, fun _ a ha => ?_⟩
      · rw [← h3.length] at e
        rw [cutD_whole _ _ _ e] at h
        exact k _ S w _ h (Step.refl _) rs rd'
      · exact fresh_kT k rs h (Nat.le_trans (cutD_len _ _ _) h2) (cut_rds h3 lo hi) a ha
  · obtain ⟨xs, hx, q⟩ := h
    obtain ⟨p, vs, rfl, hq, t, l⟩ := seqL_at rs rd hx
    exact sl_list pins s σ w.H _ v vl vu lo hi sl Q I rx hs pl pu ⟨p, vs, rfl, hq, fun a ha => fresh_k (d := .non) k rs q (Nat.le_trans (cutD_len _ _ _) l) (cut_rds t lo hi) a ha⟩
theorem po_of {t t' : TO} {o : Option Expr} (h : PO X o t) (i : ∀ σ H Q, t' σ H Q → t σ H Q) : PO X o t' := ⟨fun pins s σ H Q I q => h.run pins s σ H Q I (i _ _ _ q)⟩
theorem qo_none : PO X none (uO X.K wNone) := po_of po_none fun σ H Q ⟨w, S, ρ, Q0, e, rs, re, h, k⟩ => by
  subst e
  exact k none S w h (Step.refl _) rs
theorem qo_some (h : PE X e (uE X.K ta)) : PO X (some e) (uO X.K (wSome ta)) := po_of (po_some h) fun σ H Q ⟨w, S, ρ, Q0, e, rs, re, h, k⟩ => by
  subst e
  refine ⟨w, S, ρ, _, rfl, rs, re, h, fun x S1 w1 v1 ⟨i, e1, q⟩ s1 rs1 r1 => ?_⟩
  subst e1
  cases r1
  exact ⟨i, rfl, k _ S1 w1 q s1 rs1⟩
def wSl (ta : WE) (tl th : WO) : WE := fun ρ S Q => ta ρ S fun d S1 => tl ρ S1 fun lo S2 => th ρ S2 fun hi S3 => slD d lo hi S3 Q
theorem qe_slice (he : PE X e (uE X.K ta)) (hl : PO X lo (uO X.K tl)) (hu : PO X hi (uO X.K th)) : PE X (.Subscript e (.Slice lo hi none p2) pos) (uE X.K (wSl ta tl th)) := pe_of (pe_slice sl_all he hl hu) fun σ H Q ⟨w, S, ρ, Q0, e, rs, re, h, k⟩ => by
  subst e
  refine ⟨w, S, ρ, _, rfl, rs, re, h, fun d S1 w1 v1 h1 s1 rs1 r1 => ?_⟩
  refine ⟨w1, S1, ρ, _, rfl, rs1, re.step s1, h1, fun l S2 w2 h2 s2 rs2 => ?_⟩
  refine ⟨w2, S2, ρ, _, rfl, rs2, (re.step s1).step s2, h2, fun u S3 w3 h3 s3 rs3 => ?_⟩
  exact ⟨w3, S3, d, Q0, rfl, rs3, (r1.step s2).step s3, h3, k.step ((s1.trans s2).trans s3)⟩
/-- a[i] -/
theorem qe_ix {b : Expr} {tb : WE} (hu : X.A.units + 64 < cLine) (ha : PE X e (uE X.K ta)) (hb : PE X b (uE X.K tb)) (hs : PlainIx b) : PE X (.Subscript e b pos) (uE X.K (w2 ixD ta tb)) := pe_of (pe_ix (ix_all hu) ha hb hs) fun σ H Q ⟨w, S, ρ, Q0, e, rs, re, h, k⟩ => by
  subst e
  exact op_u rs re h k

/-! ### x[::-1] -/
theorem rev_bounds (n : Nat) : Builtin.Slice.sliceAdjust none none (-1) (n : Int) = ((n : Int) - 1, -1) := by
  unfold Builtin.Slice.sliceAdjust
  simp
theorem rev_places (n : Nat) : Builtin.Slice.slicePlaces ((n : Int) - 1) (-1) (-1) = n := by
  unfold Builtin.Slice.slicePlaces
  simp
  omega
theorem fm_map {α β : Type} {f : α → Option β} {g : α → β} : ∀ l : List α, (∀ m ∈ l, f m = some (g m)) → l.filterMap f = l.map g
  | [], _ => rfl
  | m :: l, h => by rw [List.filterMap_cons, h m List.mem_cons_self, List.map_cons, fm_map l fun n hn => h n (List.mem_cons_of_mem _ hn)]
theorem rev_pick (xs : Array Value) : ((List.range xs.size).filterMap fun (m : Nat) => xs[((xs.size : Int) - 1 + (m : Int) * -1).toNat]?).toArray = xs.toList.reverse.toArray := by
  congr 1
  rw [fm_map (g := fun m => xs.toList.reverse.getD m .none) _ fun m hm => ?_]
  · refine List.ext_getElem? fun i => ?_
    rw [List.getElem?_map]
    by_cases h : i < xs.size
    · rw [List.getElem?_range h]
      simp only [Option.map_some]
      rw [List.getD_eq_getElem?_getD, List.getElem?_eq_getElem (by simpa using h)]
      rfl
    · rw [List.getElem?_eq_none (by simp; omega), List.getElem?_eq_none (by simp; omega)]
      rfl
  · have hm : m < xs.size := List.mem_range.mp hm
    have e1 : ((xs.size : Int) - 1 + (m : Int) * -1).toNat = xs.size - 1 - m := by omega
    have h2 : xs.size - 1 - m < xs.size := by omega
    rw [e1, List.getD_eq_getElem?_getD, List.getElem?_reverse (by simpa using hm)]
    simp [h2]
theorem rev_tup {M : Program} {W : World} {A : Around} {E : Value → Shared → Prop} {s : Shared} {t sl : Addr} {items : Array Value} {vl vu vk : Value} {Q : Value → Shared → Prop} (ht : IsTup s.heap t items) (hs : s.heap.IsSliceOf sl vl vu vk)
    (pl : IsPart vl none) (pu : IsPart vu none) (pk : IsPart vk (some (-1))) (h : Q (.ref s.heap.objs.size) { s with heap := s.heap.push { cls := .type "tuple", data := .seq items.toList.reverse.toArray } })
    (hsz : items.size ≤ sizeLine) : wpAny (model M W) A (getItem (.ref t) (.ref sl)) Q E s := by
  obtain ⟨os, hos, hcs, hds⟩ := id hs
  have hT : s.TypeIs (.ref sl) "slice" := ⟨os, hos, hcs⟩
  have so : sizeOk (.seq items.toList.reverse.toArray) := by
    show items.toList.reverse.toArray.size ≤ sizeLine
    simpa using hsz
  unfold getItem
  try with_reducible refine wpAny_holding ?_
  first | refine wpAny_bind (wpAny_pure ?_) | skip
  refine wpAny_bind (wpAny_sequenceKey ht.typeIs (by decide) ?_)
  refine wpAny_bind (wpAny_callSpecial?_slot (name := Str.ofString "__getitem__") ht.typeIs PyProof.Rows.slot_tuple_getitem (wpAny_call_entry PyProof.Rows.slot_tuple_getitem ht.typeIs entry_tuple_getitem ?_ (args_tuple_getitem _ _)))
  show wpAny _ _ (Builtin.Tuple.tupleItemsOf (.ref t) >>= _) _ _ s
  refine wpAny_bind (tupleItemsOf_ ht (wpAny_bind (wpAny_typeOf hT ?_)))
  rw [if_pos (by decide)]
  have ap : ∀ {R : Int × Int × Nat → Shared → Prop} {E' : Value → Shared → Prop} {B : Around}, R ((items.size : Int) - 1, -1, items.size) s → wpAny (model M W) B (Builtin.Slice.sliceApplied (.ref sl) (pure (items.size : Int))) R E' s := by
    intro R E' B hR
    unfold Builtin.Slice.sliceApplied Builtin.Slice.sliceFields
    refine wpAny_bind (wpAny_bind (wpAny_field hos hds (x := vl) rfl (wpAny_bind (wpAny_field hos hds (x := vu) rfl (wpAny_bind (wpAny_field hos hds (x := vk) rfl (wpAny_pure ?_)))))))
    refine wpAny_bind (HT.slicePart_ pk ?_)
    show wpAny _ _ (if ((-1 : Int) == 0) = true then _ else _) _ _ s
    rw [if_neg (by decide)]
    refine wpAny_bind (HT.slicePart_ pl (wpAny_bind (HT.slicePart_ pu (wpAny_bind (wpAny_pure ?_)))))
    show wpAny _ _ (match Builtin.Slice.sliceAdjust none none (-1) (items.size : Int) with | (lo, hi) => pure (lo, (-1 : Int), Builtin.Slice.slicePlaces lo hi (-1))) _ _ s
    rw [rev_bounds]
    show wpAny _ _ (pure ((items.size : Int) - 1, (-1 : Int), Builtin.Slice.slicePlaces ((items.size : Int) - 1) (-1) (-1))) _ _ s
    rw [rev_places]
    exact wpAny_pure hR
  refine wpAny_bind (ap ?_)
  show wpAny _ _ (if ((items.size : Int) - 1 == 0 && (-1 : Int) == 1 && items.size == items.size) = true then _ else _) _ _ s
  have nn : ¬ (((items.size : Int) - 1 == 0 && (-1 : Int) == 1 && items.size == items.size) = true) := by simp
  rw [if_neg nn, rev_pick]
  first
    | exact wpAny_bind (m := Builtin.Tuple.tupleExact _) (wpAny_newObj_type (wpAny_pure ⟨_, rfl, wpAny_pure h⟩) so)
    | exact wpAny_bind (m := Builtin.Tuple.tupleExact _) (wpAny_newObj_type (wpAny_bind (wpAny_pure (wpAny_pure ⟨_, rfl, wpAny_pure h⟩))) so)
    | exact wpAny_bind (wpAny_bind (m := Builtin.Tuple.tupleExact _) (wpAny_newObj_type (wpAny_pure (wpAny_pure ⟨_, rfl, wpAny_pure h⟩)) so))
    | exact wpAny_bind (wpAny_bind (m := Builtin.Tuple.tupleExact _) (wpAny_newObj_type (wpAny_pure ⟨_, rfl, wpAny_pure h⟩) so))
def revD : O1 := fun d S Q => match d with
  | .tup xs => Q (.tup xs.reverse) S
  | d => ∃ xs, seqL S d = some xs ∧ Q (.lst xs.reverse) S
def tRev (K : PySem.W.Frag) (te : TE) : TE := fun σ H Q => te σ H fun x H1 => ∃ a xs, x = .ref a ∧ ((SqL K H1 a xs ∧ ∀ p, H1 p = none → Q (.ref p) (upd H1 p (.lst xs.reverse))) ∨ (SqT K H1 a xs ∧ ∀ p, H1 p = none → Q (.ref p) (upd H1 p (.tup xs.reverse))))
theorem vals_rev : ∀ {xs : List V} {us : List Value}, Vals xs us → Vals xs.reverse us.reverse
  | _, _, .nil => .nil
  | _, _, .cons r t => by
    rw [List.reverse_cons, List.reverse_cons]
    exact (vals_rev t).append (.cons r .nil)
theorem pe_rev {te : TE} {k : Nat} {p1 p3 : Pos} (he : PE X e te) : PE X (.Subscript e (.Slice none none (some (.UnaryOp .USub (.Constant (.int 1) k p1) p2)) p3) pos) (tRev X.K te) := by
  refine ⟨fun pins s σ H Q I h => Subscript_ (thn (he.run pins s σ H _ I h) fun v s1 ⟨x, H1, I1, r1, a, xs, ex, q1⟩ => ?_)⟩
  subst ex
  cases r1
  have m1 : PO X (some (.UnaryOp .USub (.Constant (.int 1) k p1) p2)) (tPart (tUn (rU fun i => .int (-i)) (tC (.int 1)))) := po_some (pe_un un_neg pe_int)
  refine wpAny_Slice (thn (po_none.run pins s1 σ H1 (fun o H2 => o = none ∧ H2 = H1) I1 ⟨rfl, rfl⟩) fun vl s2 ⟨l, H2, I2, pl, el, e2⟩ => thn (po_none.run pins s2 σ H2 (fun o H3 => o = none ∧ H3 = H2) I2 ⟨rfl, rfl⟩) fun vu s3 ⟨u, H3, I3, pu, eu, e3⟩ =>
    thn (m1.run pins s3 σ H3 (fun o H4 => o = some (-1) ∧ H4 = H3) I3 ⟨1, rfl, -1, rfl, rfl, rfl⟩) fun vs s4 ⟨o, H4, I4, pk, eo, e4⟩ => ?_)
  subst el e2 eu e3 eo e4
  have I5 : Inv X pins σ H4 { s4 with heap := s4.heap.push { cls := .type "slice", data := .fields #[vl, vu, vs] } } := I4.kept (t' := s4.toks) fun b ob q => Heap.get?_push_of_some _ q
  show wpAny (model X.prog X.w) X.A (subscriptTail e _ (.ref a) (.ref s4.heap.objs.size)) (EP X pins σ Q) X.xe { s4 with heap := s4.heap.push { cls := .type "slice", data := .fields #[vl, vu, vs] } }
  rcases q1 with ⟨hx, q⟩ | ⟨hx, q⟩
  · obtain ⟨its, r, ht, hz⟩ := I5.list hx
    have hlen := r.length
    refine tail_any (ops := [.ref a, .ref s4.heap.objs.size]) ht.isList.typeIs PySem.slot_list_getitem.lookup (wpAny_getItem_list_slice ht.isList (Heap.IsSliceOf.new _ vl vu vs) pl pu pk (by decide) ?_ (by rw [List.size_toArray]; omega)) (by with_unfolding_all rfl)
    rw [PySem.W.krv_pick]
    exact ⟨.ref _, _, I5.laid (t' := s4.toks) (o := .lst xs.reverse) (fun b ob q => Heap.get?_push_of_some _ q) (Nat.le_refl _) ⟨by rw [List.length_reverse]; exact hz, _, 0, vals_rev r, Heap.get?_push_size _ rfl⟩, rfl, q _ (I5.hok.fresh (Nat.le_refl _))⟩
  · obtain ⟨its, r, ht, hz⟩ := I5.tuple hx
    have hlen := r.length
    refine tail_any (ops := [.ref a, .ref s4.heap.objs.size]) ht.typeIs PyProof.Rows.slot_tuple_getitem.lookup (rev_tup ht (Heap.IsSliceOf.new _ vl vu vs) pl pu pk ?_ (by rw [List.size_toArray]; omega)) (by with_unfolding_all rfl)
    exact ⟨.ref _, _, I5.laid (t' := s4.toks) (o := .tup xs.reverse) (fun b ob q => Heap.get?_push_of_some _ q) (Nat.le_refl _) ⟨by rw [List.length_reverse]; exact hz, _, vals_rev r, IsTup.new _ _⟩, rfl, q _ (I5.hok.fresh (Nat.le_refl _))⟩
theorem qe_rev {k : Nat} {p1 p3 : Pos} (he : PE X e (uE X.K ta)) : PE X (.Subscript e (.Slice none none (some (.UnaryOp .USub (.Constant (.int 1) k p1) p2)) p3) pos) (uE X.K (w1 revD ta)) := pe_of (pe_rev he) fun σ H Q ⟨w, S, ρ, Q0, e, rs, re, h, k⟩ => by
  subst e
  refine ⟨w, S, ρ, _, rfl, rs, re, h, fun d S1 w1 v1 h1 s1 rs1 r1 => ?_⟩
  unfold revD at h1
  split at h1
  · cases r1 with
    | @tup p vs ds g1 g2 g3 => exact ⟨p, vs, rfl, .inr ⟨g1.sq, fun a ha => fresh_kT (k.step s1) rs1 h1 (by rw [List.length_reverse]; exact g2) g3.reverse a ha⟩⟩
  · obtain ⟨xs, hx, q⟩ := h1
    obtain ⟨p, vs, rfl, hq, t, l⟩ := seqL_at rs1 r1 hx
    exact ⟨p, vs, rfl, .inl ⟨hq, fun a ha => fresh_k (d := .non) (k.step s1) rs1 q (by rw [List.length_reverse]; exact l) t.reverse a ha⟩⟩
end
/-! ### repr -/
mutual
def pyE : D → Option PyData
  | .non => some .none
  | .bl b => some (.bool b)
  | .int i => some (.int i)
  | .str x => some (.str x)
  | .tup xs => (pysE xs).map .tuple
  | .lst xs => (pysE xs).map .list
  | .emp => some (.dict [])
  | .loc _ => none
def pysE : List D → Option (List PyData)
  | [] => some []
  | x :: xs => (pyE x).bind fun a => (pysE xs).map fun b => a :: b
end
/-- with a list of the store at its top -/
def pyR (S : Store) (d : D) : Option PyData := match d with
  | .loc i => match S[i]? with
    | some (.lst xs) => (pysE xs).map .list
    | _ => none
  | d => pyE d
section
variable {X : Cx} {pins : List (Addr × Obj)} {σ : L2.St} {s : Shared}
mutual
theorem rd_reads (I : Inv X pins σ w.H s) : ∀ {d : D} {v : V} {u : Value} {a : PyData}, RD X.K w d v → RelV v u → pyE d = some a → ∃ as, Reads s.heap u a as
  | _, _, _, _, .non, r, h => by
    simp only [pyE] at h
    cases h
    cases r
    exact ⟨_, .none⟩
  | _, _, _, _, .bl b, r, h => by
    simp only [pyE] at h
    cases h
    cases r
    exact ⟨_, .bool b⟩
  | _, _, _, _, .int b, r, h => by
    simp only [pyE] at h
    cases h
    obtain ⟨t, rfl⟩ := r
    exact ⟨_, .int b t⟩
  | _, _, _, _, .str b, r, h => by
    simp only [pyE] at h
    cases h
    obtain ⟨t, rfl⟩ := r
    exact ⟨_, .str b t⟩
  | _, _, _, _, .tup h1 h2 h3, r, h => by
    simp only [pyE, Option.map_eq_some_iff] at h
    obtain ⟨as, ha, rfl⟩ := h
    cases r
    obtain ⟨its, rv, ⟨o, g, c, n, e⟩, _⟩ := I.tuple h1.sq
    obtain ⟨bs, hb⟩ := rds_reads I h3 rv ha
    exact ⟨_, .tuple g c e (by simpa using hb)⟩
  | _, _, _, _, .lst h1 h2 h3, r, h => by
    simp only [pyE, Option.map_eq_some_iff] at h
    obtain ⟨as, ha, rfl⟩ := h
    cases r
    obtain ⟨its, rv, ⟨o, n, g, c, _, e⟩, _⟩ := I.list h1.sq
    obtain ⟨bs, hb⟩ := rds_reads I h3 rv ha
    exact ⟨_, .list g c e (by simpa using hb)⟩
  | _, _, _, _, .emp h1 h2, r, h => by
    simp only [pyE] at h
    cases h
    cases r
    obtain ⟨_, hne, vs, kv, o, es, ep, g, hx, e1, _, e2, _⟩ := I.hok _ _ h1
    cases kv
    have e0 : es = #[] := by
      have q : es.toList = [] := by
        generalize es.toList = l at e2
        cases e2
        rfl
      exact Array.toList_eq_nil_iff.mp q
    subst e0
    exact ⟨_, .dict (kvs := []) g hx.1 e1 (by simpa using ReadsAll.nil) (by simpa using ReadsAll.nil)⟩
  | _, _, _, _, .loc _, _, h => by
    simp only [pyE] at h
    cases h
theorem rds_reads (I : Inv X pins σ w.H s) : ∀ {ds : List D} {vs : List V} {us : List Value} {as : List PyData}, RDs X.K w ds vs → Vals vs us → pysE ds = some as → ∃ bs, ReadsAll s.heap us as bs
  | _, _, _, _, .nil, r, h => by
    simp only [pysE] at h
    cases h
    cases r
    exact ⟨_, .nil⟩
  | _, _, _, _, .cons r t, rv, h => by
    simp only [pysE, Option.bind_eq_some_iff, Option.map_eq_some_iff] at h
    obtain ⟨a, ha, as, has, rfl⟩ := h
    cases rv with
    | cons r1 r2 =>
      obtain ⟨b1, h1⟩ := rd_reads I r r1 ha
      obtain ⟨b2, h2⟩ := rds_reads I t r2 has
      exact ⟨_, .cons h1 h2⟩
end
end
section
variable {X : Cx}
def reprC : OL := fun ds S Q => ∃ d a, ds = [d] ∧ pyR S d = some a ∧ a.hasDict = false ∧ a.showable = true ∧ a.depth ≤ 64 ∧ a.shown.length ≤ sizeLine ∧ Q (.str a.shown) S
theorem call_reprQ (hg : X.A.guards = some []) (hu : X.A.units + 66 < cLine) : CallR X (.builtin "repr") (uL X.K reprC) := by
  rintro pins s σ H xs us Q I r ⟨w, S, ds, Q0, rfl, rs, rd, ⟨d, a, rfl, ha, hnd, hs, hd, hz, q⟩, k⟩
  cases rd with
  | cons rd rn =>
    cases rn
    rename_i x
    obtain ⟨u, rfl, rx⟩ := vals1 r
    have fin : ∀ {h' : Heap} {t : Tok} {tk : Nat}, (∀ b o, s.heap.get? b = some o → h'.get? b = some o) → EP X pins σ Q (.str a.shown t) { s with heap := h', toks := tk } := fun {h' t tk} kp =>
      ⟨.str a.shown, w.H, I.kept kp, ⟨_, rfl⟩, k _ S w _ q (Step.refl _) rs (.str _)⟩
    have byRef : ∀ {b : Addr} {as : List Addr}, u = .ref b → Reads s.heap u a as → wpAny (model X.prog X.w) X.A (call (.builtin "repr") [u]) (EP X pins σ Q) X.xe s := fun {b as} e hr => by
      subst e
      exact repr_of_reads' hr hs (fun z => absurd (hnd.symm.trans z) (by decide)) hg (by omega) (fun _ _ e => e) (fun h' t tk kp => fin kp) hz
    cases rd with
    | non =>
      cases ha
      cases rx
      exact PySem.P.repr_of_none (fin fun _ _ e => e)
    | bl b =>
      cases ha
      cases rx
      exact PySem.P.repr_of_bool (fin fun _ _ e => e)
    | int i =>
      cases ha
      obtain ⟨t, rfl⟩ := rx
      exact PySem.P.repr_of_int (of_decide_eq_true hs) (fin fun _ _ e => e)
    | str z =>
      cases ha
      obtain ⟨t, rfl⟩ := rx
      exact PySem.P.repr_of_str (fin fun _ _ e => e) hz
    | tup h1 h2 h3 =>
      obtain ⟨as, hr⟩ := rd_reads I (.tup h1 h2 h3) rx ha
      exact byRef rx hr
    | lst h1 h2 h3 =>
      obtain ⟨as, hr⟩ := rd_reads I (.lst h1 h2 h3) rx ha
      exact byRef rx hr
    | emp h1 h2 =>
      obtain ⟨as, hr⟩ := rd_reads I (.emp h1 h2) rx ha
      exact byRef rx hr
    | @loc i hi =>
      unfold pyR at ha
      simp only at ha
      split at ha
      · rename_i ys e2
        obtain ⟨as, has, rfl⟩ := Option.map_eq_some_iff.mp ha
        obtain ⟨vs, h, l, t⟩ := rs.lst i ys e2
        cases rx
        obtain ⟨its, rv, ⟨o, n, g, c, _, e⟩, _⟩ := I.list (SqL.of h)
        obtain ⟨bs, hb⟩ := rds_reads I t rv has
        exact byRef rfl (.list g c e (by simpa using hb))
      · cases ha
def upD : O1 := fun d S Q => ∃ z, d = .str z ∧ z.length ≤ 5592405 ∧ Q (.str (Txt.upper z)) S
end
end Pv

/-! Defs by their contracts over data; calls. -/
namespace Pv
open PySem L2 PySem.Spec PyProof.Rows

/-- a def that keeps a contract over data, wherever nothing is being shown by repr -/
structure FnG (P : Program) (w : World) (K : PySem.W.Frag) (mg : Str → Option Value) (base : Heap) (k : Nat) (f : Addr) (fd : FuncData) (ps : List Str) (C : OL) : Prop where
  len : ∀ ds S Q, C ds S Q → ds.length = ps.length
  run : ∀ (A : Around) (out : List PySem.Env) (s : Shared) (H : Hp) (args : Args) (us : List Value) (vs : List V) (Q : VK), A.guards = some [] → Room k A → Env0 P w K mg base A out s H → BindsTo s fd args (ps.zip us) → Vals vs us → uL K C vs H Q →
    codeAny (model P w) A (.call (.ref f) args) (CR CX0 out P w H s Q E0) s
section
variable {P : Program} {w : World} {K : PySem.W.Frag} {mg : Str → Option Value} {base : Heap} {k : Nat} {f : Addr} {fd : FuncData} {ps : List Str} {C : OL}
theorem FnG.mono {j : Nat} (F : FnG P w K mg base j f fd ps C) (h : j ≤ k) : FnG P w K mg base k f fd ps C :=
  ⟨F.len, fun A out s H args us vs Q hg hr => F.run A out s H args us vs Q hg (hr.mono h)⟩
theorem FnG.imp {C' : OL} (F : FnG P w K mg base k f fd ps C) (h : ∀ ds S Q, C' ds S Q → C ds S Q) : FnG P w K mg base k f fd ps C' :=
  ⟨fun ds S Q c => F.len ds S Q (h _ _ _ c), fun A out s H args us vs Q hg hr he hb hv ⟨w1, S, ds, Q0, e, rs, rd, c, kt⟩ => F.run A out s H args us vs Q hg hr he hb hv ⟨w1, S, ds, Q0, e, rs, rd, h _ _ _ c, kt⟩⟩
/-- such a def where the layer wants one, nothing being shown -/
theorem FnG.ok (F : FnG P w K mg base k f fd ps C) {A : Around} {out : List PySem.Env} {s : Shared} {H : Hp} {args : Args} {us : List Value} {vs : List V} {Q : VK} (hg : A.guards = some []) (hr : Room k A) (he : Env0 P w K mg base A out s H)
    (hb : BindsTo s fd args (ps.zip us)) (hv : Vals vs us) (h : uL K C vs H Q) : codeAny (model P w) A (.call (.ref f) args) (CR CX0 out P w H s Q E0) s := F.run A out s H args us vs Q hg hr he hb hv h

theorem startE {N : List Str} {w : Wd} {ds : List D} {vs : List V} (r : RDs K w ds vs) : RE K w (ds.map some ++ List.replicate (N.length - ds.length) none) (L2.start N vs) := by
  have hl := r.length
  refine ⟨?_, fun i d e => ?_⟩
  · unfold L2.start
    simp [hl]
  · by_cases h : i < ds.length
    · rw [List.getElem?_append_left (by simpa using h), List.getElem?_map] at e
      cases q : ds[i]? with
      | none => rw [q] at e; cases e
      | some x =>
        rw [q] at e
        cases e
        obtain ⟨v, hv, rv⟩ := r.get q
        refine ⟨v, ?_, rv⟩
        unfold L2.start
        rw [List.getElem?_append_left (by simpa [← hl] using h), List.getElem?_map, hv]
        rfl
    · rw [List.getElem?_append_right (by simpa using h), List.getElem?_replicate] at e
      split at e <;> cases e

/-- the names at the entry -/
def inE (N : List Str) (ds : List D) : Env := ds.map some ++ List.replicate (N.length - ds.length) none
/-- THE RULE of a def: its body's reading -/
theorem fnG_of {st : Stmt} {x qual : Str} {N : List Str} {t : WS} (F : Fun K x qual st f fd) (Sc : FnScope N ps (defScope st)) (len : ∀ ds S Q, C ds S Q → ds.length = ps.length)
    (body : ∀ (cdv : Value) (A : Around) (out : List PySem.Env) (s : Shared) (H : Hp), A.guards = some [] → Room k (A.deeper (envOfC qual (defScope st) s.heap.objs.size f cdv)) →
      PSs (cxOf CX0 P w K mg base N qual (defScope st) f cdv A out s H E0).nox (defBody st) (uS K t))
    (wp : ∀ ds S Q, C ds S Q → t (inE N ds) S { nx := fun _ S' => Q .non S', rt := Q }) : FnG P w K mg base (k + 1) f fd ps C := by
  obtain ⟨oc, od, kV, dc, pm, an, cdv, ct, osl, rfl, lk, hcd⟩ := F.ex
  refine ⟨len, fun A out s H args us vs Q hg hr he hb hv ⟨w0, S0, ds, Q0, eH, rs, rd, hc, kt⟩ => ?_⟩
  subst eH
  have hlen : vs.length = ps.length := by rw [← rd.length]; exact len _ _ _ hc
  have kx : K.In s.heap := he.mod.kin.keeps fun b o q => (he.bs b o q).1
  have nl : s.heap.NoLimit := he.mod.nolimit.keeps fun b o q => (he.bs b o q).1
  have kinds : ∀ y ∈ ps.zip us, (defScope st).names.lookup y.1 = some .local ∨ ((defScope st).names.lookup y.1 = some .cell ∧ ((cellsFrom (s.heap.objs.size + 1) (defScope st).names []).lookup y.1).isSome = true) := fun ⟨n, v⟩ hy =>
    (Sc.par n (List.of_mem_zip hy).1).imp id fun q => ⟨q, PySem.W.cellsFrom_some _ _ _ (.inl q)⟩
  refine codeAny_call_function hr.depth (kx _ _ lk) rfl Sc.co Sc.gen rfl (PySem.W.codeRec_of kx hcd) (hb _ _ _ _ (wpAny_newFunctionEnv_cells Sc.kind kinds fun env henv s1 ic => ?_))
  subst henv
  refine ⟨nl.keeps ic.toInCall.keep, codeAny_func ?_⟩
  have bt := body cdv A out s w0.H hg (hr.deeper _)
  have I : Inv (cxOf CX0 P w K mg base N qual (defScope st) f cdv A out s w0.H E0) [] (L2.start N vs) w0.H s1 := inv_start Sc hr.hd he hlen hv ic
  have In := bt.nox
  refine wpAny_mono (In.run [] s1 (L2.start N vs) w0.H { nx := fun _ H' => Q .non H', rt := Q } I ?_) (fun fl s' hs => ?_) fun _ _ z => z
  · exact ⟨w0, S0, _, _, rfl, rs, startE rd, wp ds S0 Q0 hc, fun ρ S' w' σ' q st1 rs' _ => kt _ _ _ _ q st1 rs' .non, kt, fun _ _ _ _ q => q.elim, fun _ _ _ _ q => q.elim⟩
  · cases fl with
    | ret u =>
      obtain ⟨v, σ', H', J, rv, q⟩ := hs
      exact ⟨v, H', J.os, J.bare, J.base, J.hok, rv, q⟩
    | next =>
      obtain ⟨σ', H', J, q⟩ := hs
      exact ⟨.non, H', J.os, J.bare, J.base, J.hok, rfl, q⟩
    | brk => exact hs.elim fun _ h => h.elim fun _ h => h.2.elim
    | cont => exact hs.elim fun _ h => h.elim fun _ h => h.2.elim
end
section
variable {X : Cx} {f : Addr} {fd : FuncData} {ps : List Str} {C : OL} {k : Nat} {x : Str} {e : Expr} {es : List Expr} {pos p : Pos} {u : WA}
theorem qe_call (F : FnG X.prog X.w X.K X.mg X.base k f fd ps C) (hgd : X.A.guards = some []) (hr : Room k X.A) (hg : Gl X x) (hm : X.mg x = some (.ref f)) (hk : PySem.W.keepIn X.K (.ref f) = true) (hb : Binds X.K fd ps []) (ha : PA X (e :: es) (uA X.K u))
    (hdb : (x == ("__debug__" : Str)) = false) (he : starEach (e :: es) X.env = (false, eval e X.env) :: starEach es X.env) (hpl : (backTo pos (starEach es X.env)).any (·.1) = false) : PE X (.Call (.Name x p) (e :: es) [] pos) (uE X.K (wL C u)) := by
  refine ⟨fun pins s σ H Q I ⟨w, S, ρ, Q0, eH, rs, re, h, kt⟩ => ?_⟩
  subst eH
  refine wpAny_Call_Name_kw (ld_glob I hg hm (PySem.W.callWith_K (h₀ := X.base) I.ok.mod.kin hk (thn (ha.run pos pins s σ w.H _ I (uL_of rs re h kt)) fun us s1 ⟨vs, H1, I1, r, q⟩ => ⟨I1.kIn, ?_⟩) he hpl) hdb)
  have hlen : us.length = ps.length := by
    obtain ⟨w1, S1, ds, Q1, e1, rs1, rd1, hc, _⟩ := id q
    rw [← r.length, ← rd1.length]
    exact F.len _ _ _ hc
  have hbt := hb s1 us I1.kIn (by rw [List.append_nil]; exact hlen)
  rw [List.append_nil] at hbt
  refine wpAny_call (codeAny_mono (F.run X.A X.stack s1 H1 ⟨us, []⟩ us vs Q hgd hr I1.env0 hbt r q) fun r' s' hq => ?_)
  cases r' with
  | error er => exact hq.elim
  | ok fl =>
    cases fl with
    | ret v => exact I1.after hq
    | next => exact hq.elim
    | brk => exact hq.elim
    | cont => exact hq.elim
/-- a call in which the keyword-only parameters are left out -/
theorem qe_callD {dvs : List V} {ds' : List Value} {els : List D} (F : FnG X.prog X.w X.K X.mg X.base k f fd ps C) (hgd : X.A.guards = some []) (hr : Room k X.A) (hg : Gl X x) (hm : X.mg x = some (.ref f)) (hk : PySem.W.keepIn X.K (.ref f) = true) (hb : Binds X.K fd ps ds') (hd : Vals dvs ds') (hl : ∀ w, RDs X.K w els dvs) (ha : PA X (e :: es) (uA X.K u))
    (hdb : (x == ("__debug__" : Str)) = false) (he : starEach (e :: es) X.env = (false, eval e X.env) :: starEach es X.env) (hpl : (backTo pos (starEach es X.env)).any (·.1) = false) : PE X (.Call (.Name x p) (e :: es) [] pos) (uE X.K (wL (fun ds S Q => C (ds ++ els) S Q) u)) := by
  refine ⟨fun pins s σ H Q I ⟨w, S, ρ, Q0, eH, rs, re, h, kt⟩ => ?_⟩
  subst eH
  refine wpAny_Call_Name_kw (ld_glob I hg hm (PySem.W.callWith_K (h₀ := X.base) I.ok.mod.kin hk (thn (ha.run pos pins s σ w.H _ I (uL_of rs re h kt)) fun us s1 ⟨vs, H1, I1, r, q⟩ => ⟨I1.kIn, ?_⟩) he hpl) hdb)
  have q2 : uL X.K C (vs ++ dvs) H1 Q := by
    obtain ⟨w1, S1, ds, Q1, e1, rs1, rd1, hc, kk⟩ := q
    exact ⟨w1, S1, ds ++ els, Q1, e1, rs1, rd1.append (hl w1), hc, kk⟩
  have r2 : Vals (vs ++ dvs) (us ++ ds') := r.append hd
  have hlen : (us ++ ds').length = ps.length := by
    obtain ⟨w1, S1, ds, Q1, e1, rs1, rd1, hc, _⟩ := id q2
    rw [← r2.length, ← rd1.length]
    exact F.len _ _ _ hc
  refine wpAny_call (codeAny_mono (F.run X.A X.stack s1 H1 ⟨us, []⟩ (us ++ ds') (vs ++ dvs) Q hgd hr I1.env0 (hb s1 us I1.kIn hlen) r2 q2) fun r' s' hq => ?_)
  cases r' with
  | error er => exact hq.elim
  | ok fl =>
    cases fl with
    | ret v => exact I1.after hq
    | next => exact hq.elim
    | brk => exact hq.elim
    | cont => exact hq.elim
/-- a call with the one keyword-only parameter given -/
theorem qe_callK {n : Str} {ev : Expr} {kp : Pos} {tk : WE} (F : FnG X.prog X.w X.K X.mg X.base k f fd ps C) (hgd : X.A.guards = some []) (hr : Room k X.A) (hg : Gl X x) (hm : X.mg x = some (.ref f)) (hk : PySem.W.keepIn X.K (.ref f) = true) (hb : KBn X.K fd ps (ps.length - 1) [n] (fun us ws => us ++ ws) (fun vs zs => vs ++ zs)) (ha : PA X (e :: es) (uA X.K u)) (hv : PE X ev (uE X.K tk))
    (hdb : (x == ("__debug__" : Str)) = false) (he : starEach (e :: es) X.env = (false, eval e X.env) :: starEach es X.env) (hpl : (backTo pos (starEach (e :: es) X.env)).any (·.1) = false) :
    PE X (.Call (.Name x p) (e :: es) [⟨some n, ev, kp⟩] pos) (uE X.K fun ρ S Q => u ρ S fun ds S1 => tk ρ S1 fun d S2 => C (ds ++ [d]) S2 Q) := by
  refine ⟨fun pins s σ H Q I ⟨w, S, ρ, Q0, eH, rs, re, h, kt⟩ => ?_⟩
  subst eH
  have hpl2 : ((backTo pos (starEach (e :: es) X.env)).any (·.1) || (backToKw pos (keywordEach [⟨some n, ev, kp⟩] X.env)).any (·.1.isNone)) = false := by
    rw [hpl]
    rfl
  refine wpAny_Call_Name_kw (ld_glob I hg hm ?_ hdb)
  refine PySem.W.callWith_KW (h₀ := X.base) I.ok.mod.kin hk rfl (thn (ha.run pos pins s σ w.H (fun vs H1 => ∃ w1 S1 ds, w1.H = H1 ∧ Step w w1 ∧ RS X.K w1 S1 ∧ RDs X.K w1 ds vs ∧ tk ρ S1 fun d S2 => C (ds ++ [d]) S2 Q0) I ⟨w, S, ρ, _, rfl, rs, re, h, fun ds S1 w1 vs h1 s1 rs1 r1 => ⟨w1, S1, ds, rfl, s1, rs1, r1, h1⟩⟩) fun us s1 ⟨vs, H1, I1, r, w1, S1, ds, eH1, st1, rs1, rd1, q⟩ => ?_) hpl2 he
  subst eH1
  have hkw : PK X [⟨some n, ev, kp⟩] (tCons (uE X.K tk) tNil) := pk_cons hv pk_nil
  refine thn (hkw.run pos pins s1 σ w1.H (fun zs H2 => ∃ w2 S2 d z, zs = [z] ∧ w2.H = H2 ∧ Step w1 w2 ∧ RS X.K w2 S2 ∧ RD X.K w2 d z ∧ C (ds ++ [d]) S2 Q0) I1 ⟨w1, S1, ρ, _, rfl, rs1, re.step st1, q, fun d S2 w2 v h2 s2 rs2 r2 => ⟨w2, S2, d, v, rfl, rfl, s2, rs2, r2, h2⟩⟩) fun ws s2 ⟨zs, H2, I2, rz, w2, S2, d, z, ezs, eH2, st2, rs2, rd2, q2⟩ => ⟨I2.kIn, ?_⟩
  subst ezs
  subst eH2
  have q3 : uL X.K C (vs ++ [z]) w2.H Q := ⟨w2, S2, ds ++ [d], Q0, rfl, rs2, (rd1.step st2).append (.cons rd2 .nil), q2, kt.step (st1.trans st2)⟩
  have hlen : (ds ++ [d]).length = ps.length := F.len _ _ _ q2
  rw [List.length_append, List.length_singleton] at hlen
  have lu : us.length = ps.length - 1 := by
    rw [← r.length, ← rd1.length]
    omega
  have lw : ws.length = [n].length := rz.length.symm
  show wpAny _ _ (call (.ref f) ([] ++ us) ([n].zip ws)) _ _ s2
  rw [List.nil_append]
  refine wpAny_call (codeAny_mono (F.run X.A X.stack s2 w2.H ⟨us, [n].zip ws⟩ (us ++ ws) (vs ++ [z]) Q hgd hr I2.env0 (hb.to s2 us ws I2.kIn lu lw) (r.append rz) q3) fun r' s' hq => ?_)
  cases r' with
  | error er => exact hq.elim
  | ok fl =>
    cases fl with
    | ret v => exact I2.after hq
    | next => exact hq.elim
    | brk => exact hq.elim
    | cont => exact hq.elim
/-- built-ins by their names -/
theorem qe_blt {id : String} {o : OL} (hc : CallR X (.builtin id) (uL X.K o)) (hg : Gl X x) (hm : X.mg x = none) (hv : bootBuiltins x = some (.builtin id)) (ha : PA X (e :: es) (uA X.K u)) (hn : x ≠ "__name__") (hdb : (x == ("__debug__" : Str)) = false)
    (he : starEach (e :: es) X.env = (false, eval e X.env) :: starEach es X.env) (hpl : (backTo pos (starEach es X.env)).any (·.1) = false) : PE X (.Call (.Name x p) (e :: es) [] pos) (uE X.K (wL o u)) :=
  pe_of (pe_callB hc hg hm hv ha hn hdb he hpl) fun σ H Q ⟨w, S, ρ, Q0, eH, rs, re, h, kt⟩ => by
    subst eH
    exact uL_of rs re h kt
theorem qe_ty {T : String} {o : OL} (hc : CallR X (.type T) (uL X.K o)) (hg : Gl X x) (hm : X.mg x = none) (hv : bootBuiltins x = some (.type T)) (ha : PA X (e :: es) (uA X.K u)) (hn : x ≠ "__name__") (hdb : (x == ("__debug__" : Str)) = false)
    (he : starEach (e :: es) X.env = (false, eval e X.env) :: starEach es X.env) (hpl : (backTo pos (starEach es X.env)).any (·.1) = false) : PE X (.Call (.Name x p) (e :: es) [] pos) (uE X.K (wL o u)) :=
  pe_of (pe_callTy hc hg hm hv ha hn hdb he hpl) fun σ H Q ⟨w, S, ρ, Q0, eH, rs, re, h, kt⟩ => by
    subst eH
    exact uL_of rs re h kt
end
end Pv

/-! Statements, loops, comprehensions, by data. -/
namespace Pv
open PySem L2 PySem.Spec PyProof.Rows
variable {K : PySem.W.Frag} {w : Wd} {S : Store}
theorem RE.set {ρ : Env} {σ : L2.St} {d : D} {v : V} (re : RE K w ρ σ) (r : RD K w d v) (i : Nat) : RE K w (ρ.set i (some d)) (σ.set i (some v)) := by
  refine ⟨by rw [List.length_set, List.length_set]; exact re.len, fun j e h => ?_⟩
  by_cases q : i = j
  · subst q
    have hi : i < ρ.length := by
      have := (List.getElem?_eq_some_iff.mp h).1
      rwa [List.length_set] at this
    rw [List.getElem?_set_self hi] at h
    cases h
    exact ⟨v, by rw [List.getElem?_set_self (by rw [← re.len]; exact hi)], r⟩
  · rw [List.getElem?_set_ne q] at h
    obtain ⟨u, hu, ru⟩ := re.at_ j e h
    exact ⟨u, by rw [List.getElem?_set_ne q]; exact hu, ru⟩
theorem RE.unset {ρ : Env} {σ : L2.St} (re : RE K w ρ σ) (i : Nat) : RE K w (ρ.set i none) (σ.set i none) := by
  refine ⟨by rw [List.length_set, List.length_set]; exact re.len, fun j e h => ?_⟩
  by_cases q : i = j
  · subst q
    have hi : i < ρ.length := by
      have := (List.getElem?_eq_some_iff.mp h).1
      rwa [List.length_set] at this
    rw [List.getElem?_set_self hi] at h
    cases h
  · rw [List.getElem?_set_ne q] at h
    obtain ⟨u, hu, ru⟩ := re.at_ j e h
    exact ⟨u, by rw [List.getElem?_set_ne q]; exact hu, ru⟩
section
variable {X : Cx} {a b c e tg iter : Expr} {es : List Expr} {pos p : Pos} {ta tb : WE} {tt : WT} {st : Stmt} {sts rest : List Stmt} {ts us : WS} {g : WG}
/-! ### blocks -/
def wSkip : WS := fun ρ S E => E.nx ρ S
def wSeq (t u : WS) : WS := fun ρ S E => t ρ S { E with nx := fun ρ' S' => u ρ' S' E }
theorem qss_nil : PSs X [] (uS X.K wSkip) := pss_of pss_nil fun N σ H ⟨w, S, ρ, E0, eH, rs, re, h, k1, _, _, _⟩ => by
  subst eH
  exact k1 ρ S w σ h (Step.refl _) rs re
theorem qss_cons (h1 : PS X st (uS X.K ts)) (h2 : PSs X rest (uS X.K us)) : PSs X (st :: rest) (uS X.K (wSeq ts us)) := pss_of (pss_cons h1 h2) fun N σ H ⟨w, S, ρ, E0, eH, rs, re, h, k1, k2, k3, k4⟩ => by
  subst eH
  exact ⟨w, S, ρ, _, rfl, rs, re, h, fun ρ' S' w' σ' q st1 rs' re' => ⟨w', S', ρ', E0, rfl, rs', re', q, k1.step st1, k2.step st1, k3.step st1, k4.step st1⟩, k2, k3, k4⟩
theorem qss_one (h1 : PS X st (uS X.K ts)) : PSs X [st] (uS X.K ts) := pss_one h1
theorem qs_pass : PS X (.Pass pos) (uS X.K wSkip) := ps_of ps_pass fun N σ H ⟨w, S, ρ, E0, eH, rs, re, h, k1, _, _, _⟩ => by
  subst eH
  exact k1 ρ S w σ h (Step.refl _) rs re
def wBrk : WS := fun ρ S E => E.bk ρ S
def wCnt : WS := fun ρ S E => E.ct ρ S
theorem qs_brk : PS X (.Break pos) (uS X.K wBrk) := ps_of ps_break fun N σ H ⟨w, S, ρ, E0, eH, rs, re, h, _, _, k3, _⟩ => by
  subst eH
  exact k3 ρ S w σ h (Step.refl _) rs re
theorem qs_cnt : PS X (.Continue pos) (uS X.K wCnt) := ps_of ps_continue fun N σ H ⟨w, S, ρ, E0, eH, rs, re, h, _, _, _, k4⟩ => by
  subst eH
  exact k4 ρ S w σ h (Step.refl _) rs re
theorem qs_doc {x : Str} {j : Nat} {pos' : Pos} : PS X (.Expr (.Constant (.str x) j pos) pos') (uS X.K wSkip) := ps_of ps_doc fun N σ H ⟨w, S, ρ, E0, eH, rs, re, h, k1, _, _, _⟩ => by
  subst eH
  exact k1 ρ S w σ h (Step.refl _) rs re
def wRet (t : WE) : WS := fun ρ S E => t ρ S E.rt
theorem qs_ret (h : PE X e (uE X.K ta)) : PS X (.Return (some e) pos) (uS X.K (wRet ta)) := ps_of (ps_ret h) fun N σ H ⟨w, S, ρ, E0, eH, rs, re, h, _, k2, _, _⟩ => by
  subst eH
  exact ⟨w, S, ρ, _, rfl, rs, re, h, k2⟩
def wRetN : WS := fun _ S E => E.rt .non S
theorem qs_retN : PS X (.Return none pos) (uS X.K wRetN) := ps_of ps_retN fun N σ H ⟨w, S, ρ, E0, eH, rs, re, h, _, k2, _, _⟩ => by
  subst eH
  exact k2 .non S w .non h (Step.refl _) rs .non
def wIfS (t : WT) (u v : WS) : WS := fun ρ S E => t ρ S fun c S1 => if c = true then u ρ S1 E else v ρ S1 E
theorem qs_if (hc : PT X c (uT X.K tt)) (ha : PSs X sts (uS X.K ts)) (hb : PSs X rest (uS X.K us)) : PS X (.If c sts rest pos) (uS X.K (wIfS tt ts us)) := ps_of (ps_if hc ha hb) fun N σ H ⟨w, S, ρ, E0, eH, rs, re, h, k1, k2, k3, k4⟩ => by
  subst eH
  refine ⟨w, S, ρ, _, rfl, rs, re, h, fun c S1 w1 q s1 rs1 => ?_⟩
  cases c with
  | true => exact ⟨w1, S1, ρ, E0, rfl, rs1, re.step s1, q, k1.step s1, k2.step s1, k3.step s1, k4.step s1⟩
  | false => exact ⟨w1, S1, ρ, E0, rfl, rs1, re.step s1, q, k1.step s1, k2.step s1, k3.step s1, k4.step s1⟩
def wDrop (t : WE) : WS := fun ρ S E => t ρ S fun _ S1 => E.nx ρ S1
theorem qs_drop (h : PE X e (uE X.K ta)) (hs : swapsWith e none pos.line X.env = pure false) : PS X (.Expr e pos) (uS X.K (wDrop ta)) := ps_of (ps_expr h hs) fun N σ H ⟨w, S, ρ, E0, eH, rs, re, h, k1, _, _, _⟩ => by
  subst eH
  exact ⟨w, S, ρ, _, rfl, rs, re, h, fun d S1 w1 v q s1 rs1 _ => k1 ρ S1 w1 σ q s1 rs1 (re.step s1)⟩
/-! ### targets -/
def gN (i : Nat) : WG := fun d ρ S Q => Q (ρ.set i (some d)) S
abbrev WGs := List D → Env → Store → (Env → Store → Prop) → Prop
def uGs (K : PySem.W.Frag) (t : WGs) : TGs := fun vs σ H Q => ∃ w S ρ ds Q0, w.H = H ∧ RS K w S ∧ RE K w ρ σ ∧ RDs K w ds vs ∧ t ds ρ S Q0 ∧ KtN K w Q0 Q
def gNl : WGs := fun ds ρ S Q => ds = [] ∧ Q ρ S
def gCn (t : WG) (u : WGs) : WGs := fun ds ρ S Q => ∃ d r, ds = d :: r ∧ t d ρ S fun ρ' S' => u r ρ' S' Q
/-- what is unpacked: a tuple, a list that stays -/
def tupL : D → Option (List D)
  | .tup xs => some xs
  | .lst xs => some xs
  | _ => none
def gT (n : Nat) (t : WGs) : WG := fun d ρ S Q => ∃ xs, tupL d = some xs ∧ xs.length = n ∧ t xs ρ S Q
theorem pgs_of {t t' : TGs} (h : PGs X es t) (i : ∀ v σ H Q, t' v σ H Q → t v σ H Q) : PGs X es t' := ⟨fun pins s σ H v u Q I r q => h.run pins s σ H v u Q I r (i _ _ _ _ q)⟩
theorem qg_name {i : Nat} {x : Str} (hN : X.N.Nodup) (hi : X.N[i]? = some x) (hx : Loc X.env.scope x) (hf : X.fn x = true ∨ X.env.scope.names.lookup x = some .local) : PG X (.Name x pos) (uG X.K (gN i)) :=
  pg_of (pg_name hN hi hx hf) fun v σ H Q ⟨w, S, ρ, d, Q0, eH, rs, re, rd, h, k⟩ => by
    subst eH
    exact k _ S w _ h (Step.refl _) rs (re.set rd i)
theorem qgs_nil : PGs X [] (uGs X.K gNl) := pgs_of pgs_nil fun v σ H Q ⟨w, S, ρ, ds, Q0, eH, rs, re, rd, ⟨h0, h⟩, k⟩ => by
  subst eH h0
  cases rd
  exact ⟨rfl, k ρ S w σ h (Step.refl _) rs re⟩
theorem qgs_cons {u : WGs} (h1 : PG X e (uG X.K g)) (h2 : PGs X es (uGs X.K u)) (hs : (assignEach (e :: es) X.env).map (·.2) = assign e X.env :: (assignEach es X.env).map (·.2)) : PGs X (e :: es) (uGs X.K (gCn g u)) :=
  pgs_of (pgs_cons h1 h2 hs) fun v σ H Q ⟨w, S, ρ, ds, Q0, eH, rs, re, rd, ⟨d, r, h0, h⟩, k⟩ => by
    subst eH h0
    cases rd with
    | cons r1 r2 => exact ⟨_, _, rfl, w, S, ρ, d, _, rfl, rs, re, r1, h, fun ρ' S' w' σ' q s1 rs' re' => ⟨w', S', ρ', r, Q0, rfl, rs', re', r2.step s1, q, k.step s1⟩⟩
theorem qg_tup {u : WGs} {n k0 : Nat} (hc : X.calm = true) (h : PGs X es (uGs X.K u)) (hn : (assignEach es X.env).length = n) (hst : (assignEach es X.env).findIdx? (·.1) = none) : PG X (.Tuple es k0 pos) (uG X.K (gT n u)) := ⟨fun pins s σ H v uu Q I r ⟨w, S, ρ, d, Q0, eH, rs, re, rd, ⟨xs, h0, hl, h1⟩, k⟩ => by
    subst eH
    cases rd with
    | tup a1 a2 a3 =>
      cases h0
      exact (pg_tup hc h hn hst).run pins s σ w.H _ uu Q I r ⟨_, _, rfl, a1.sq, by rw [← a3.length]; exact hl, w, S, ρ, xs, Q0, rfl, rs, re, a3, h1, k⟩
    | lst a1 a2 a3 =>
      cases h0
      exact (pg_unl hc h hn hst).run pins s σ w.H _ uu Q I r ⟨_, _, rfl, a1.sq, by rw [← a3.length]; exact hl, w, S, ρ, xs, Q0, rfl, rs, re, a3, h1, k⟩
    | _ => cases h0⟩
/-- xs[i] as one of several targets -/
def gS (to ti : WE) : WG := fun v ρ S Q => to ρ S fun o S1 => ti ρ S1 fun i S2 => setD S2 o i v fun S3 => Q ρ S3
theorem qg_sub {to ti : WE} {o i : Expr} {p : Pos} (hu : X.A.units + 64 < cLine) (ho : PE X o (uE X.K to)) (hi : PE X i (uE X.K ti)) (hasg : ∀ v, assign (.Subscript o i p) X.env v = (do
      let ov ← holding [v] (eval o X.env)
      let iv ← holding [v, ov] (eval i X.env)
      standAt p
      holding [v, ov, iv] (setItem ov iv v)
      release [v, ov, iv] [])) : PG X (.Subscript o i p) (uG X.K (gS to ti)) := pg_of (pg_sub ho hi (set_all hu) hasg) fun v σ H Q ⟨w1, S1, ρ, d, Q0, eH, rs1, re1, r1, h1, k1⟩ => by
    subst eH
    refine ⟨w1, S1, ρ, _, rfl, rs1, re1, h1, fun o S2 w2 ov h2 s2 rs2 r2 => ?_⟩
    refine ⟨w2, S2, ρ, _, rfl, rs2, re1.step s2, h2, fun i S3 w3 iv h3 s3 rs3 r3 => ?_⟩
    have s02 := s2.trans s3
    exact ⟨w3, S3, o, i, d, _, rfl, rs3, r2.step s3, r3, r1.step s02, h3, fun S4 w4 q s4 rs4 => k1 ρ S4 w4 σ q (s02.trans s4) rs4 (re1.step (s02.trans s4))⟩
def wAsg (t : WE) (g : WG) : WS := fun ρ S E => t ρ S fun d S1 => g d ρ S1 E.nx
theorem asg_u {t : WE} {g : WG} {N : Ends} {σ : L2.St} {w : Wd} {ρ : Env} {E0 : En} (rs : RS K w S) (re : RE K w ρ σ) (h : wAsg t g ρ S E0) (k1 : KtN K w E0.nx N.nx) : tAsg (uE K t) (uG K g) N σ w.H :=
  ⟨w, S, ρ, _, rfl, rs, re, h, fun d S1 w1 v q s1 rs1 r1 => ⟨w1, S1, ρ, d, _, rfl, rs1, re.step s1, r1, q, k1.step s1⟩⟩
theorem qs_asg (he : PE X e (uE X.K ta)) (hg : PG X tg (uG X.K g)) (hs : swapsWithSole [tg] e pos.line X.env = pure false) (hw : swappedStores [tg] e X.env = pure none) (h1 : (assignEach [tg] X.env).map (·.2) = [assign tg X.env]) : PS X (.Assign [tg] e pos) (uS X.K (wAsg ta g)) :=
  ps_of (ps_asg he hg hs hw h1) fun N σ H ⟨w, S, ρ, E0, eH, rs, re, h, k1, _, _, _⟩ => by
    subst eH
    exact asg_u rs re h k1
theorem qs_set {i : Nat} {x : Str} (hN : X.N.Nodup) (hi : X.N[i]? = some x) (hx : Loc X.env.scope x) (he : PE X e (uE X.K ta)) (hs : swapsWith e (some (.Name x p)) pos.line X.env = pure false) (hf : X.fn x = true ∨ X.env.scope.names.lookup x = some .local) : PS X (.Assign [.Name x p] e pos) (uS X.K (wAsg ta (gN i))) :=
  ps_of (ps_set hN hi hx he hs hf) fun N σ H ⟨w, S, ρ, E0, eH, rs, re, h, k1, _, _, _⟩ => by
    subst eH
    exact ⟨w, S, ρ, _, rfl, rs, re, h, fun d S1 w1 v q s1 rs1 r1 => k1 _ S1 w1 _ q s1 rs1 ((re.step s1).set r1 i)⟩
/-- two names at once -/
def wPar (i j : Nat) (u : WA) : WS := fun ρ S E => u ρ S fun ds S1 => ∃ d e, ds = [d, e] ∧ E.nx ((ρ.set i (some d)).set j (some e)) S1
theorem qs_par {i j : Nat} {x y : Str} {u : WA} {px py pt : Pos} {kt k2 : Nat} {pt2 : Pos} (hc : X.calm = true) (hN : X.N.Nodup) (hi : X.N[i]? = some x) (hj : X.N[j]? = some y) (hij : i ≠ j) (hx : X.env.scope.names.lookup x = some .local) (hy : X.env.scope.names.lookup y = some .local)
    (ha : PA X [a, b] (uA X.K u)) (hw : swappedStores [.Tuple [.Name x px, .Name y py] kt pt] (.Tuple [a, b] k2 pt2) X.env = pure (some [x, y])) (hs : swapsWithSole [.Tuple [.Name x px, .Name y py] kt pt] (.Tuple [a, b] k2 pt2) pos.line X.env = pure false) :
    PS X (.Assign [.Tuple [.Name x px, .Name y py] kt pt] (.Tuple [a, b] k2 pt2) pos) (uS X.K (wPar i j u)) := ps_of (ps_par hc hN hi hj hij hx hy ha hw hs) fun N σ H ⟨w, S, ρ, E0, eH, rs, re, h, k1, _, _, _⟩ => by
    subst eH
    refine ⟨w, S, ρ, _, rfl, rs, re, h, fun ds S1 w1 vs ⟨d, e, h0, q⟩ s1 rs1 r1 => ?_⟩
    subst h0
    cases r1 with
    | cons r1 r2 =>
      cases r2 with
      | cons r2 r3 =>
        cases r3
        exact ⟨_, _, rfl, k1 _ S1 w1 _ q s1 rs1 (((re.step s1).set r1 i).set r2 j)⟩
/-- three plain names at once -/
def wTri (i j l : Nat) (u : WA) : WS := fun ρ S E => u ρ S fun ds S1 => ∃ d e f, ds = [d, e, f] ∧ E.nx (((ρ.set i (some d)).set j (some e)).set l (some f)) S1
theorem qs_tri {i j l : Nat} {x y z : Str} {a b c : Expr} {u : WA} {px py pz pt : Pos} {kt k2 : Nat} {pt2 : Pos} (hc : X.calm = true) (hN : X.N.Nodup) (hi : X.N[i]? = some x) (hj : X.N[j]? = some y) (hl : X.N[l]? = some z) (hij : i ≠ j) (hil : i ≠ l) (hjl : j ≠ l) (hx : X.env.scope.names.lookup x = some .local) (hy : X.env.scope.names.lookup y = some .local) (hz : X.env.scope.names.lookup z = some .local)
    (ha : PA X [a, b, c] (uA X.K u)) (hw : swappedStores [.Tuple [.Name x px, .Name y py, .Name z pz] kt pt] (.Tuple [a, b, c] k2 pt2) X.env = pure (some [x, y, z])) (hs : swapsWithSole [.Tuple [.Name x px, .Name y py, .Name z pz] kt pt] (.Tuple [a, b, c] k2 pt2) pos.line X.env = pure false) :
    PS X (.Assign [.Tuple [.Name x px, .Name y py, .Name z pz] kt pt] (.Tuple [a, b, c] k2 pt2) pos) (uS X.K (wTri i j l u)) := ps_of (ps_par3 hc hN hi hj hl hij hil hjl hx hy hz ha hw hs) fun N σ H ⟨w, S, ρ, E0, eH, rs, re, h, k1, _, _, _⟩ => by
    subst eH
    refine ⟨w, S, ρ, _, rfl, rs, re, h, fun ds S1 w1 vs ⟨d, e, f, h0, q⟩ s1 rs1 r1 => ?_⟩
    subst h0
    cases r1 with
    | cons r1 r2 =>
      cases r2 with
      | cons r2 r3 =>
        cases r3 with
        | cons r3 r4 =>
          cases r4
          exact ⟨_, _, _, rfl, k1 _ S1 w1 _ q s1 rs1 ((((re.step s1).set r1 i).set r2 j).set r3 l)⟩
/-- xs[i] = e -/
def wPut (tv to ti : WE) : WS := fun ρ S E => tv ρ S fun v S1 => to ρ S1 fun o S2 => ti ρ S2 fun i S3 => setD S3 o i v fun S4 => E.nx ρ S4
theorem qs_put {to ti : WE} (hu : X.A.units + 64 < cLine) (hv : PE X e (uE X.K ta)) (ho : PE X a (uE X.K to)) (hi : PE X b (uE X.K ti)) (hasg : ∀ v, assign (.Subscript a b p) X.env v = (do
      let ov ← holding [v] (eval a X.env)
      let iv ← holding [v, ov] (eval b X.env)
      standAt p
      holding [v, ov, iv] (setItem ov iv v)
      release [v, ov, iv] [])) (hs : swapsWithSole [.Subscript a b p] e pos.line X.env = pure false) (hw : swappedStores [.Subscript a b p] e X.env = pure none) (h1 : (assignEach [.Subscript a b p] X.env).map (·.2) = [assign (.Subscript a b p) X.env]) :
    PS X (.Assign [.Subscript a b p] e pos) (uS X.K (wPut ta to ti)) := ps_of (ps_asg hv (pg_sub ho hi (set_all hu) hasg) hs hw h1) fun N σ H ⟨w, S, ρ, E0, eH, rs, re, h, k1, _, _, _⟩ => by
    subst eH
    refine ⟨w, S, ρ, _, rfl, rs, re, h, fun d S1 w1 v h1 s1 rs1 r1 => ?_⟩
    refine ⟨w1, S1, ρ, _, rfl, rs1, re.step s1, h1, fun o S2 w2 ov h2 s2 rs2 r2 => ?_⟩
    refine ⟨w2, S2, ρ, _, rfl, rs2, (re.step s1).step s2, h2, fun i S3 w3 iv h3 s3 rs3 r3 => ?_⟩
    have s02 := (s1.trans s2).trans s3
    exact ⟨w3, S3, o, i, d, _, rfl, rs3, r2.step s3, r3, (r1.step s2).step s3, h3, fun S4 w4 q s4 rs4 => k1 ρ S4 w4 σ q (s02.trans s4) rs4 (re.step (s02.trans s4))⟩
/-! ### a method that changes a list -/
theorem qs_app {apos cpos : Pos} (ho : PE X a (uE X.K ta)) (ha : PE X e (uE X.K tb)) (hbase : attributeBase a "append" X.env (eval a X.env) = eval a X.env)
    (hfew : ((backTo cpos (starEach [e] X.env)).all (fun x => !x.1) && (backToKw cpos (keywordEach [] X.env)).all (fun x => x.1.isSome) && decide (([e] : List Expr).length + ([] : List Keyword).length + (if ([] : List Keyword).isEmpty then 0 else 1) < 30)) = true)
    (hline : (apos.endLine == cpos.line) = true) (hst : starEach [e] X.env = (false, eval e X.env) :: starEach [] X.env) (hpl : (backTo cpos (starEach [] X.env)).any (·.1) = false) :
    PE X (.Call (.Attribute a "append" apos) [e] [] cpos) (uE X.K fun ρ S Q => ta ρ S fun o S1 => (∃ xs, seqL S1 o = some xs) ∧ tb ρ S1 fun d S2 => appD o [d] S2 Q) :=
  pe_of (pe_bm PySem.F.plainAttrs_list PySem.F.slot_list_append PySem.F.type_list_append mt_appQ ho (pa_cons ha pa_nil hst) hbase hfew hline hst hpl) fun σ H Q ⟨w, S, ρ, Q0, eH, rs, re, h, k⟩ => by
    subst eH
    refine ⟨w, S, ρ, _, rfl, rs, re, h, fun o S1 w1 v ⟨⟨xs, hx⟩, h1⟩ s1 rs1 r1 => ⟨?_, ?_⟩⟩
    · obtain ⟨q, vs, rfl, hq, _, _⟩ := seqL_at rs1 r1 hx
      exact .inl ⟨rfl, _, hq⟩
    · exact ⟨w1, S1, ρ, _, rfl, rs1, re.step s1, h1, fun d S2 w2 u q s2 rs2 r2 => ⟨w2, S2, o, [d], Q0, rfl, rs2, r1.step s2, .cons r2 .nil, q, k.step (s1.trans s2)⟩⟩
theorem qe_ext {apos cpos : Pos} (ho : PE X a (uE X.K ta)) (ha : PE X e (uE X.K tb)) (hbase : attributeBase a "extend" X.env (eval a X.env) = eval a X.env)
    (hfew : ((backTo cpos (starEach [e] X.env)).all (fun x => !x.1) && (backToKw cpos (keywordEach [] X.env)).all (fun x => x.1.isSome) && decide (([e] : List Expr).length + ([] : List Keyword).length + (if ([] : List Keyword).isEmpty then 0 else 1) < 30)) = true)
    (hline : (apos.endLine == cpos.line) = true) (hst : starEach [e] X.env = (false, eval e X.env) :: starEach [] X.env) (hpl : (backTo cpos (starEach [] X.env)).any (·.1) = false) :
    PE X (.Call (.Attribute a "extend" apos) [e] [] cpos) (uE X.K fun ρ S Q => ta ρ S fun o S1 => (∃ xs, seqL S1 o = some xs) ∧ tb ρ S1 fun d S2 => extD o [d] S2 Q) :=
  pe_of (pe_bm PySem.F.plainAttrs_list PySem.F.slot_list_extend PySem.F.type_list_extend mt_extQ ho (pa_cons ha pa_nil hst) hbase hfew hline hst hpl) fun σ H Q ⟨w, S, ρ, Q0, eH, rs, re, h, k⟩ => by
    subst eH
    refine ⟨w, S, ρ, _, rfl, rs, re, h, fun o S1 w1 v ⟨⟨xs, hx⟩, h1⟩ s1 rs1 r1 => ⟨?_, ?_⟩⟩
    · obtain ⟨q, vs, rfl, hq, _, _⟩ := seqL_at rs1 r1 hx
      exact .inl ⟨rfl, _, hq⟩
    · exact ⟨w1, S1, ρ, _, rfl, rs1, re.step s1, h1, fun d S2 w2 u q s2 rs2 r2 => ⟨w2, S2, o, [d], Q0, rfl, rs2, r1.step s2, .cons r2 .nil, q, k.step (s1.trans s2)⟩⟩
theorem qe_pop {apos cpos : Pos} (ho : PE X a (uE X.K ta)) (hbase : attributeBase a "pop" X.env (eval a X.env) = eval a X.env) (hline : (apos.endLine == cpos.line) = true) :
    PE X (.Call (.Attribute a "pop" apos) [] [] cpos) (uE X.K fun ρ S Q => ta ρ S fun o S1 => popD o [] S1 Q) :=
  pe_of (pe_bm0 PySem.F.plainAttrs_list PySem.F.slot_list_pop PySem.F.type_list_pop mt_popQ ho hbase hline) fun σ H Q ⟨w, S, ρ, Q0, eH, rs, re, h, k⟩ => by
    subst eH
    refine ⟨w, S, ρ, _, rfl, rs, re, h, fun o S1 w1 v h1 s1 rs1 r1 => ?_⟩
    obtain ⟨p, xs, y, rfl, _, hp, hq⟩ := id h1
    obtain ⟨q, vs, rfl, hqq, _, _⟩ := seqL_at rs1 r1 (show seqL S1 (.loc p) = some (xs ++ [y]) by simp [seqL, hp])
    exact ⟨.inl ⟨rfl, _, hqq⟩, w1, S1, .loc p, [], Q0, rfl, rs1, r1, .nil, h1, k.step s1⟩
/-- a new dict that changes -/
def wNewd : WE := fun _ S Q => Q (.loc S.length) (S ++ [.dct []])
def wNewd1 (tk tv : WE) : WE := fun ρ S Q => tk ρ (S ++ [.dct []]) fun d S1 => tv ρ S1 fun e S2 => S2[S.length]? = some (.dct []) ∧ (∃ n, nkey d = some n) ∧ Q (.loc S.length) (S2.set S.length (.dct [(d, e)]))
theorem qe_newd : PE X (.Dict [] [] p) (uE X.K wNewd) := ⟨fun pins s σ H Q I ⟨w, S, ρ, Q0, eH, rs, re, h, k⟩ => by
  subst eH
  have hn := I.hok.fresh (Nat.le_refl s.heap.objs.size)
  have hb : (s.heap.objs.size == sysModules) = false := (dk_empty (P := X.prog) (w := X.w) (H := w.H) s.heap I.big).2.1
  refine wpAny_Dict_empty ⟨.ref s.heap.objs.size, _, I.laid (a := s.heap.objs.size) (o := dctO s.heap.objs.size []) (t' := s.toks) (fun _ _ q => Heap.get?_push_of_some _ q) (Nat.le_refl _) (dct_new s.heap hb), rfl, ?_⟩
  unfold wNewd at h
  rw [rs.len] at h
  exact k _ _ (w.add s.heap.objs.size _) _ h (add_step rs hn) (rs.addO hn ⟨[], rfl, Nat.zero_le _, .nil⟩) add_rd⟩
/-- {k: v} that changes -/
theorem qe_newd1 {ke ve : Expr} (hu : X.A.units + 64 < cLine) (hk : PE X ke (uE X.K ta)) (hv : PE X ve (uE X.K tb)) : PE X (.Dict [some ke] [ve] p) (uE X.K (wNewd1 ta tb)) := ⟨fun pins s σ H Q I ⟨w, S, ρ, Q0, eH, rs, re, h, kt⟩ => by
  subst eH
  have hn := I.hok.fresh (Nat.le_refl s.heap.objs.size)
  have hb : (s.heap.objs.size == sysModules) = false := (dk_empty (P := X.prog) (w := X.w) (H := w.H) s.heap I.big).2.1
  have I1 := I.laid (a := s.heap.objs.size) (o := dctO s.heap.objs.size []) (h' := s.heap.push { cls := .type "dict", data := .dict #[] }) (t' := s.toks) (fun _ _ q => Heap.get?_push_of_some _ q) (Nat.le_refl _) (dct_new (P := X.prog) (W := X.w) (H := upd w.H s.heap.objs.size (dctO s.heap.objs.size [])) s.heap hb)
  have rs1 : RS X.K (w.add s.heap.objs.size (dctO s.heap.objs.size [])) (S ++ [.dct []]) := rs.addO hn ⟨[], rfl, Nat.zero_le _, .nil⟩
  have st1 := add_step (o := dctO s.heap.objs.size []) rs hn
  have rm : (nestedKind X.prog X.w).room X.A := by
    show X.A.units + 8 < cLine
    omega
  rw [arm_eval_Dict, zip_pairTrees [some ke] [ve] X.env p rfl rfl, dictDisplay_pairs (pairTrees [some ke] [ve] X.env p) (by intro e; cases e) (by show (1 : Nat) < 17; omega)]
  refine wpAny_bind (wpAny_standAt (wpAny_bind (wpAny_subDictH (knd := nestedKind X.prog X.w) (Q := fun d s' => wpAny (model X.prog X.w) X.A (pure (Value.ref d)) (EP X pins σ Q) X.xe s') rm (by show (1 : Nat) ≤ 15; omega) ?_)))
  refine pairTrees_cons_walk (thn (hk.run pins _ σ _ (fun x H1 => ∃ w1 S1 d, w1.H = H1 ∧ Step (w.add s.heap.objs.size (dctO s.heap.objs.size [])) w1 ∧ RS X.K w1 S1 ∧ RD X.K w1 d x ∧ tb ρ S1 fun e S2 => S2[S.length]? = some (.dct []) ∧ (∃ n, nkey d = some n) ∧ Q0 (.loc S.length) (S2.set S.length (.dct [(d, e)]))) I1
    ⟨_, _, ρ, _, rfl, rs1, re.step st1, h, fun d S1 w1 v q s1 r1 rd => ⟨w1, S1, d, rfl, s1, r1, rd, q⟩⟩) fun ku s2 ⟨x, H1, I2, rx, w1, S1, d, e1, s1, r1, rd, q⟩ => ?_)
  subst e1
  refine thn (hv.run pins s2 σ _ (fun y H2 => ∃ w2 S2 e, w2.H = H2 ∧ Step w1 w2 ∧ RS X.K w2 S2 ∧ RD X.K w2 e y ∧ S2[S.length]? = some (.dct []) ∧ (∃ n, nkey d = some n) ∧ Q0 (.loc S.length) (S2.set S.length (.dct [(d, e)]))) I2
    ⟨w1, S1, ρ, _, rfl, r1, (re.step st1).step s1, q, fun e S2 w2 v q s2 r2 rd => ⟨w2, S2, e, rfl, s2, r2, rd, q⟩⟩) fun vu s3 ⟨y, H2, I3, ry, w2, S2, e, e2, st2, r2, re2, hS, ⟨n, hn2⟩, q2⟩ => ?_
  subst e2
  refine pairTrees_nil_walk ?_
  have rd2 := rd.step st2
  obtain ⟨⟨ds, rfl⟩, hnk, hdep⟩ := nkey_nk hn2
  have kk := key_at I3 rd2 rx hnk
  obtain ⟨xs, ys, hH, rk, rxy, dd, hs, hz⟩ := dct_at I3 r2 hS
  have ei : w2.φ S.length = s.heap.objs.size := by
    have h1 := (s1.trans st2).φ S.length (by rw [rs.len]; exact Nat.lt_succ_self _)
    rw [h1, rs.len]
    exact add_new
  cases rk
  cases rxy
  have hi := r2.lt hS
  cases rd2 with
  | @tup a vs _ t1 t2 t3 =>
    cases rx
    rw [ei] at dd
    refine ⟨[(n, a, vu)], ⟨rfl, rfl, ⟨kk, hdep⟩, trivial⟩, dd, fun h' tk dd' sb => wpAny_pure ?_⟩
    have rk2 : RKs X.K w2 [(.tup ds, e)] [(n, a, y)] := .cons hn2 (.tup t1 t2 t3) re2 .nil
    have ok : ObjOk X.prog X.w (upd w2.H (w2.φ S.length) (dctO (w2.φ S.length) [(n, a, y)])) h' (w2.φ S.length) (dctO (w2.φ S.length) [(n, a, y)]) :=
      dct_ok hs (by show 1 ≤ sizeLine; rw [sizeLine_eq]; omega) (.cons ⟨rfl, rfl, ry⟩ .nil) (rk_hash (P := X.w) rk2) (by rw [ei]; exact dd')
    have he : ∃ z, h'.get? (w2.φ S.length) = some z := by
      obtain ⟨o, _, _, ho, _⟩ := dd'
      rw [ei]
      exact ⟨o, ho⟩
    refine ⟨.ref (w2.φ S.length), _, I3.write (e := w2.φ S.length) (t' := tk) (by rw [hH]; trivial) (.inl rfl) (fun b z hb2 hz2 => ?_) he ok, by rw [ei]; rfl, ?_⟩
    · rw [ei] at hb2
      exact (sb.2 b hb2).trans hz2
    · exact kt (.loc S.length) _ (w2.put (w2.φ S.length) _) _ q2 ((st1.trans (s1.trans st2)).trans (turn_step r2 hi)) (r2.turnO hi ⟨_, rfl, by show 1 ≤ sizeLine; rw [sizeLine_eq]; omega, rk2⟩) (.loc (w := w2.put (w2.φ S.length) _) hi)⟩
end
end Pv

/-! Loops and comprehensions, by data. -/
namespace Pv
open PySem L2 PySem.Spec PyProof.Rows
variable {K : PySem.W.Frag} {w : Wd} {S : Store}
/-- what is walked gives out the items that stand there -/
structure JOk (J : It) (at_ : Hp → List V → Prop) : Prop where
  go : ∀ i H vs x, at_ H vs → vs[i]? = some x → J.go i H
  stop : ∀ i H vs, at_ H vs → vs.length ≤ i → J.stop i H
  yld : ∀ i H x H', J.yld i H x H' → H' = H ∧ ∀ vs, at_ H vs → ∀ y, vs[i]? = some y → y = x
theorem jok_l (a : Addr) : JOk (Itl K a) (fun H vs => SqL K H a vs) :=
  ⟨fun _ _ vs x h e => ⟨vs, x, h, e⟩, fun _ _ vs h e => ⟨vs, h, e⟩, fun _ _ _ _ ⟨e, q⟩ => ⟨e, fun vs h y hy => Option.some.inj (hy.symm.trans (q vs h))⟩⟩
theorem jok_t (a : Addr) : JOk (Itt K a) (fun H vs => SqT K H a vs) :=
  ⟨fun _ _ vs x h e => ⟨vs, x, h, e⟩, fun _ _ vs h e => ⟨vs, h, e⟩, fun _ _ _ _ ⟨e, q⟩ => ⟨e, fun vs h y hy => Option.some.inj (hy.symm.trans (q vs h))⟩⟩
def rngV (lo : Int) (n : Nat) : List V := (List.range n).map fun i => .int (lo + (i : Nat))
def rngD (lo : Int) (n : Nat) : List D := (List.range n).map fun i => .int (lo + (i : Nat))
theorem rng_rds (lo : Int) (n : Nat) : RDs K w (rngD lo n) (rngV lo n) := by
  unfold rngD rngV
  generalize List.range n = l
  induction l with
  | nil => exact .nil
  | cons a l ih => exact .cons (.int _) ih
theorem jok_r (lo : Int) (n : Nat) : JOk (Itr lo n) (fun _ vs => vs = rngV lo n) := by
  refine ⟨fun i H vs x h e => ?_, fun i H vs h e => ?_, fun i H x H' ⟨e, q⟩ => ⟨e, fun vs h y hy => ?_⟩⟩
  · subst h
    have := (List.getElem?_eq_some_iff.mp e).1
    have q : i < n := by simpa [rngV] using this
    exact q
  · subst h
    have q : n ≤ i := by simpa [rngV] using e
    exact q
  · subst h
    unfold rngV at hy
    rw [List.getElem?_map] at hy
    by_cases hi : i < n
    · rw [List.getElem?_range hi] at hy
      cases hy
      exact q.symm
    · rw [List.getElem?_eq_none (by simpa using hi)] at hy
      cases hy
/-- what a walk gives, by data: from the world w0 on -/
structure JD (K : PySem.W.Frag) (J : It) (w0 : Wd) (src : Store → Option (List D)) (all : List D) : Prop where
  go : ∀ i w S, Step w0 w → RS K w S → src S = some all → i < all.length → J.go i w.H
  stop : ∀ i w S, Step w0 w → RS K w S → src S = some all → all.length ≤ i → J.stop i w.H
  yld : ∀ i w S x H', Step w0 w → RS K w S → src S = some all → J.yld i w.H x H' → ∀ d, all[i]? = some d → ∃ w', w'.H = H' ∧ Step w w' ∧ (∀ S', RS K w S' → RS K w' S') ∧ RD K w' d x
theorem jd_of {J : It} {at_ : Hp → List V → Prop} {w0 : Wd} {src : Store → Option (List D)} {all : List D} (jo : JOk J at_) (hat : ∀ w' S', Step w0 w' → RS K w' S' → src S' = some all → ∃ vs, at_ w'.H vs ∧ RDs K w' all vs) : JD K J w0 src all where
  go := fun i w S st rs e hl => by
    obtain ⟨vs, ha, t⟩ := hat w S st rs e
    have hv := t.length
    exact jo.go i w.H vs _ ha (List.getElem?_eq_getElem (by omega : i < vs.length))
  stop := fun i w S st rs e hl => by
    obtain ⟨vs, ha, t⟩ := hat w S st rs e
    have hv := t.length
    exact jo.stop i w.H vs ha (by omega)
  yld := fun i w S x H' st rs e y d hd => by
    obtain ⟨vs, ha, t⟩ := hat w S st rs e
    obtain ⟨eH, hx⟩ := jo.yld i _ x H' y
    obtain ⟨v, hv, rv⟩ := t.get hd
    have ex := hx vs ha v hv
    subst ex eH
    exact ⟨w, rfl, Step.refl _, fun _ r => r, rv⟩
/-- the turns of a loop over items -/
def forL (g : WG) (tb : WS) (src : Store → Option (List D)) (all : List D) : List D → Env → Store → En → Prop
  | [], ρ, S, E => E.nx ρ S
  | x :: xs, ρ, S, E => g x ρ S fun ρ1 S1 => tb ρ1 S1 { rt := E.rt, bk := E.nx, nx := fun ρ2 S2 => src S2 = some all ∧ forL g tb src all xs ρ2 S2 E, ct := fun ρ2 S2 => src S2 = some all ∧ forL g tb src all xs ρ2 S2 E }
theorem for_core {J : It} {g : WG} {tb : WS} {src : Store → Option (List D)} {all : List D} {ρ : Env} {σ : L2.St} {E0 : En} {N : Ends} (jd : JD K J w src all)
    (rs : RS K w S) (re : RE K w ρ σ) (h0 : src S = some all) (h : forL g tb src all all ρ S E0)
    (k1 : KtN K w E0.nx N.nx) (k2 : KtE K w E0.rt N.rt) : ∃ W : Nat → Nat → L2.St → Hp → Prop, (∃ m, W 0 m σ w.H) ∧ ∀ i m σ H, W i m σ H → (J.stop i H ∧ N.nx σ H) ∨ (J.go i H ∧ ∃ Nn : L2.St → Hp → Prop, (∀ σ' H', Nn σ' H' → ∃ m', m' < m ∧ W (i + 1) m' σ' H') ∧
      ∀ x H', J.yld i H x H' → uG K g x σ H' fun σ2 H2 => uS K tb { N with nx := Nn, ct := Nn, bk := N.nx } σ2 H2) := by
  refine ⟨fun i m σ H => ∃ w' S' ρ', w'.H = H ∧ m = all.length - i ∧ i ≤ all.length ∧ Step w w' ∧ RS K w' S' ∧ RE K w' ρ' σ ∧ src S' = some all ∧ forL g tb src all (all.drop i) ρ' S' E0, ⟨all.length, w, S, ρ, rfl, rfl, Nat.zero_le _, Step.refl _, rs, re, h0, h⟩, ?_⟩
  rintro i m σ H ⟨w', S', ρ', rfl, rfl, hi, st, rs', re', hs, hf⟩
  by_cases hlt : i < all.length
  · refine .inr ⟨jd.go i w' S' st rs' hs hlt, fun σ2 H2 => ∃ w2 S2 ρ2, w2.H = H2 ∧ Step w w2 ∧ RS K w2 S2 ∧ RE K w2 ρ2 σ2 ∧ src S2 = some all ∧ forL g tb src all (all.drop (i + 1)) ρ2 S2 E0,
      fun σ2 H2 ⟨w2, S2, ρ2, e, s2, r2, q2, h2, f2⟩ => ⟨all.length - (i + 1), by omega, w2, S2, ρ2, e, rfl, hlt, s2, r2, q2, h2, f2⟩, fun x H' y => ?_⟩
    have hd : all[i]? = some all[i] := List.getElem?_eq_getElem hlt
    obtain ⟨wy, eH, sy, ry, rv⟩ := jd.yld i w' S' x H' st rs' hs y _ hd
    rw [List.drop_eq_getElem_cons hlt] at hf
    refine ⟨wy, S', ρ', all[i], _, eH, ry S' rs', re'.step sy, rv, hf, fun ρ3 S3 w3 σ3 q3 s3 rs3 re3 => ?_⟩
    have sf := (st.trans sy).trans s3
    exact ⟨w3, S3, ρ3, _, rfl, rs3, re3, q3, fun ρ4 S4 w4 σ4 ⟨e4, q4⟩ s4 rs4 re4 => ⟨w4, S4, ρ4, rfl, sf.trans s4, rs4, re4, e4, q4⟩, k2.step sf, k1.step sf, fun ρ4 S4 w4 σ4 ⟨e4, q4⟩ s4 rs4 re4 => ⟨w4, S4, ρ4, rfl, sf.trans s4, rs4, re4, e4, q4⟩⟩
  · have e : i = all.length := by omega
    subst e
    rw [List.drop_length] at hf
    exact .inl ⟨jd.stop _ w' S' st rs' hs (Nat.le_refl _), k1 ρ' S' w' σ hf st rs' re'⟩
section
variable {X : Cx} {a b c e tg iter : Expr} {es : List Expr} {pos p : Pos} {ta tb : WE} {tt : WT} {st : Stmt} {sts rest : List Stmt} {ts us : WS} {g : WG}
/-- a list or a tuple, walked -/
def iAny (K : PySem.W.Frag) (te : TE) : TI := fun σ H R => te σ H fun x H1 => ∃ a, x = .ref a ∧ (((∃ xs, SqL K H1 a xs) ∧ R (Itl K a) H1) ∨ ((∃ xs, SqT K H1 a xs) ∧ R (Itt K a) H1))
theorem pi_any {te : TE} (he : PE X e te) : PI X tg e (iAny X.K te) := by
  refine ⟨fun pins s σ H R I h => thn (he.run pins s σ H _ I h) fun v s1 ⟨x, H1, I1, r1, a, ex, q1⟩ => ?_⟩
  subst ex
  cases r1
  have hp : ∀ {o : Obj} (b : Addr), b ∈ [s1.heap.objs.size] → FpOk X pins H1 b := fun b hb => by
    rw [List.mem_singleton.mp hb]
    exact I1.fpOk (Nat.le_refl _) (I1.hok.fresh (Nat.le_refl _))
  have kp : ∀ {o : Obj}, Inv X pins σ H1 { s1 with heap := s1.heap.push o } := fun {o} => I1.kept (t' := s1.toks) fun b o e => Heap.get?_push_of_some _ e
  rcases q1 with ⟨⟨xs, hq⟩, q⟩ | ⟨⟨xs, hq⟩, q⟩
  · obtain ⟨its, rv, pl, hz⟩ := I1.list hq
    exact wpAny_pyIter_list pl.isList ⟨_, [s1.heap.objs.size], _, _, H1, rfl, kp, turn_list a _, ⟨_, Heap.get?_push_size _ rfl, rfl, rfl⟩, fun b hb => hp (o := default) b hb, q⟩
  · obtain ⟨its, rv, pl, hz⟩ := I1.tuple hq
    exact wpAny_pyIter_tuple (show s1.heap.IsTuple a its.toArray from pl) ⟨_, [s1.heap.objs.size], _, _, H1, rfl, kp, turn_tuple a _, ⟨_, Heap.get?_push_size _ rfl, rfl, rfl⟩, fun b hb => hp (o := default) b hb, q⟩
/-- what is walked, by data -/
abbrev WI := Env → Store → ((Store → Option (List D)) → List D → Store → Prop) → Prop
def uI (K : PySem.W.Frag) (t : WI) : TI := fun σ H R => ∃ w S ρ Q0, w.H = H ∧ RS K w S ∧ RE K w ρ σ ∧ t ρ S Q0 ∧ ∀ src all S' w' J, Q0 src all S' → src S' = some all → all.length ≤ sizeLine → Step w w' → RS K w' S' → JD K J w' src all → R J w'.H
theorem pi_of {t t' : TI} (h : PI X tg e t) (i : ∀ σ H Q, t' σ H Q → t σ H Q) : PI X tg e t' := ⟨fun pins s σ H Q I q => h.run pins s σ H Q I (i _ _ _ q)⟩
def iSeq (t : WE) : WI := fun ρ S Q => t ρ S fun d S1 => ∃ xs, seqX S1 d = some xs ∧ Q (fun S => seqX S d) xs S1
theorem qi_seq (he : PE X e (uE X.K ta)) : PI X tg e (uI X.K (iSeq ta)) := pi_of (pi_any he) fun σ H R ⟨w, S, ρ, Q0, eH, rs, re, h, k⟩ => by
  subst eH
  refine ⟨w, S, ρ, _, rfl, rs, re, h, fun d S1 w1 v ⟨xs, hx, q⟩ s1 rs1 r1 => ?_⟩
  have r1' := id r1
  obtain ⟨p, vs, rfl, hq, t, l⟩ := seqX_at rs1 r1 hx
  refine ⟨p, rfl, ?_⟩
  by_cases ht : ∃ ys, d = .tup ys
  · obtain ⟨ys, rfl⟩ := ht
    cases r1' with
    | tup h1 h2 h3 => exact .inr ⟨⟨_, h1.sq⟩, k _ xs S1 w1 _ q hx l s1 rs1 (jd_of (jok_t p) fun w2 S2 s2 rs2 e2 => by
        cases e2
        exact ⟨_, (h1.step s2).sq, h3.step s2⟩)⟩
  · have hL : ∀ S', seqX S' d = seqL S' d := fun S' => by
      cases d <;> first | rfl | exact absurd ⟨_, rfl⟩ ht
    have hx' := hx
    rw [hL] at hx'
    obtain ⟨p', vs', e', hq', _, _⟩ := seqL_at rs1 r1' hx'
    cases e'
    refine .inl ⟨⟨_, hq'⟩, k _ xs S1 w1 _ q hx l s1 rs1 (jd_of (jok_l p) fun w2 S2 s2 rs2 e2 => ?_)⟩
    have e2' : seqL S2 d = some xs := by rw [← hL]; exact e2
    obtain ⟨p2, vs2, e3, hq2, t2, _⟩ := seqL_at rs2 (r1'.step s2) e2'
    cases e3
    exact ⟨vs2, hq2, t2⟩
def iR1 (u : WA) : WI := fun ρ S Q => u ρ S fun ds S1 => ∃ j : Int, ds = [.int j] ∧ -(2 ^ 62) ≤ j ∧ j ≤ 16777216 ∧ Q (fun _ => some (rngD 0 j.toNat)) (rngD 0 j.toNat) S1
def iR2 (u : WA) : WI := fun ρ S Q => u ρ S fun ds S1 => ∃ i j : Int, ds = [.int i, .int j] ∧ (-(2 ^ 62) ≤ i ∧ i < 2 ^ 62 ∧ -(2 ^ 62) ≤ j ∧ j < 2 ^ 62) ∧ (j - i) ≤ 16777216 ∧ Q (fun _ => some (rngD i (j - i).toNat)) (rngD i (j - i).toNat) S1
theorem rng_len (lo : Int) (n : Nat) : (rngD lo n).length = n := by simp [rngD]
theorem qi_r1 {u : WA} (hg : Gl X "range") (hm : X.mg "range" = none) (ha : PA X [a] (uA X.K u)) (hs : starEach [a] X.env = [(false, eval a X.env)]) : PI X tg (.Call (.Name "range" p) [a] [] pos) (uI X.K (iR1 u)) := pi_of (pi_range1 hg hm ha hs) fun σ H R ⟨w, S, ρ, Q0, eH, rs, re, h, k⟩ => by
  subst eH
  refine ⟨w, S, ρ, _, rfl, rs, re, h, fun ds S1 w1 vs ⟨j, e, h1, h2, q⟩ s1 rs1 r1 => ?_⟩
  subst e
  cases r1 with
  | cons r1 rn =>
    cases rn
    cases r1
    exact ⟨j, rfl, h1, by omega, k _ _ S1 w1 _ q rfl (by rw [rng_len, sizeLine_eq]; omega) s1 rs1 (jd_of (jok_r 0 _) fun w2 S2 s2 rs2 e2 => ⟨_, rfl, rng_rds _ _⟩)⟩
theorem qi_r2 {u : WA} (hg : Gl X "range") (hm : X.mg "range" = none) (ha : PA X [a, b] (uA X.K u)) (hs : starEach [a, b] X.env = [(false, eval a X.env), (false, eval b X.env)]) (hs2 : starEach [b] X.env = [(false, eval b X.env)]) : PI X tg (.Call (.Name "range" p) [a, b] [] pos) (uI X.K (iR2 u)) :=
  pi_of (pi_range2 hg hm ha hs hs2) fun σ H R ⟨w, S, ρ, Q0, eH, rs, re, h, k⟩ => by
    subst eH
    refine ⟨w, S, ρ, _, rfl, rs, re, h, fun ds S1 w1 vs ⟨i, j, e, hb, hl, q⟩ s1 rs1 r1 => ?_⟩
    subst e
    cases r1 with
    | cons r1 rn =>
      cases rn with
      | cons r2 rn =>
        cases rn
        cases r1
        cases r2
        exact ⟨i, j, rfl, hb, k _ _ S1 w1 _ q rfl (by rw [rng_len, sizeLine_eq]; omega) s1 rs1 (jd_of (jok_r i _) fun w2 S2 s2 rs2 e2 => ⟨_, rfl, rng_rds _ _⟩)⟩
def wFor (it : WI) (g : WG) (tb : WS) : WS := fun ρ S E => it ρ S fun src all S1 => forL g tb src all all ρ S1 E
theorem qs_for {it : WI} (hxe : X.xe = fun _ _ => False) (hc : X.calm = true) (hi : PI X tg iter (uI X.K it)) (hg : PG X tg (uG X.K g)) (hb : PSs X sts (uS X.K ts)) (hs : ∀ x, foldedSetIterable iter X.env x = pure x) : PS X (.For tg iter sts [] pos) (uS X.K (wFor it g ts)) :=
  ps_of (ps_for (by rw [hxe]; exact PassesOwn.never) hc hi hg hb hs) fun N σ H ⟨w, S, ρ, E0, eH, rs, re, h, k1, k2, k3, k4⟩ => by
    subst eH
    exact ⟨w, S, ρ, _, rfl, rs, re, h, fun src all S' w' J hf hs _ st rs' jd => for_core jd rs' (re.step st) hs hf (k1.step st) (k2.step st)⟩
/-- while, by a word W with a measure -/
def wWhile (t : WT) (tb : WS) : WS := fun ρ S E => ∃ W : Nat → Env → Store → Prop, (∃ m, W m ρ S) ∧ ∀ m ρ S, W m ρ S → t ρ S fun c S1 =>
  if c = true then tb ρ S1 { rt := E.rt, bk := E.nx, nx := fun ρ' S' => ∃ m', m' < m ∧ W m' ρ' S', ct := fun ρ' S' => ∃ m', m' < m ∧ W m' ρ' S' } else E.nx ρ S1
theorem qs_while (hxe : X.xe = fun _ _ => False) (hc : PT X c (uT X.K tt)) (hb : PSs X sts (uS X.K ts)) : PS X (.While c sts [] pos) (uS X.K (wWhile tt ts)) :=
  ps_of (ps_while (by rw [hxe]; exact PassesOwn.never) hc hb) fun N σ H ⟨w, S, ρ, E0, eH, rs, re, ⟨W, ⟨m, h0⟩, h⟩, k1, k2, k3, k4⟩ => by
    subst eH
    refine ⟨fun m σ H => ∃ w' S' ρ', w'.H = H ∧ Step w w' ∧ RS X.K w' S' ∧ RE X.K w' ρ' σ ∧ W m ρ' S', ⟨m, w, S, ρ, rfl, Step.refl _, rs, re, h0⟩, ?_⟩
    rintro m σ H ⟨w', S', ρ', rfl, st, rs', re', hW⟩
    refine ⟨w', S', ρ', _, rfl, rs', re', h m ρ' S' hW, fun c S1 w1 q s1 rs1 => ?_⟩
    have sf := st.trans s1
    cases c with
    | false => exact k1 ρ' S1 w1 σ q sf rs1 (re'.step s1)
    | true =>
      exact ⟨fun σ2 H2 => ∃ w2 S2 ρ2, w2.H = H2 ∧ Step w w2 ∧ RS X.K w2 S2 ∧ RE X.K w2 ρ2 σ2 ∧ ∃ m', m' < m ∧ W m' ρ2 S2, fun σ2 H2 ⟨w2, S2, ρ2, e, s2, r2, q2, m', hm, hw⟩ => ⟨m', hm, w2, S2, ρ2, e, s2, r2, q2, hw⟩,
        w1, S1, ρ', _, rfl, rs1, re'.step s1, q, fun ρ4 S4 w4 σ4 q4 s4 rs4 re4 => ⟨w4, S4, ρ4, rfl, sf.trans s4, rs4, re4, q4⟩, k2.step sf, k1.step sf, fun ρ4 S4 w4 σ4 q4 s4 rs4 re4 => ⟨w4, S4, ρ4, rfl, sf.trans s4, rs4, re4, q4⟩⟩
/-! ### [e for x in xs if t] -/
def compL (j : Nat) (tt : WT) (te : WE) (src : Store → Option (List D)) (all : List D) (ρ : Env) : List D → Store → List D → QA → Prop
  | [], S, acc, Q => Q acc S
  | x :: xs, S, acc, Q => tt (ρ.set j (some x)) S fun b S1 => if b = true then te (ρ.set j (some x)) S1 fun y S2 => src S2 = some all ∧ compL j tt te src all ρ xs S2 (acc ++ [y]) Q else src S1 = some all ∧ compL j tt te src all ρ xs S1 acc Q
def wComp (it : WI) (j : Nat) (tt : WT) (te : WE) : WE := fun ρ S Q => it ρ S fun src all S1 => compL j tt te src all (ρ.set j none) all S1 [] fun acc S2 => Q (.lst acc) S2
theorem comp_u {it : WI} {j : Nat} {tt : WT} {te : WE} {σ : L2.St} {w : Wd} {ρ : Env} {Q0 : QE} {Q : VK} (rs : RS K w S) (re : RE K w ρ σ) (h : wComp it j tt te ρ S Q0) (k : KtE K w Q0 Q) : tLc (uI K it) (gName j) (uT K tt) (uE K te) [j] σ w.H Q := by
  refine ⟨w, S, ρ, _, rfl, rs, re, h, fun src all S1 w1 J hf hs0 hlen s1 rs1 jd D hD => ?_⟩
  have reW : RE K w1 (ρ.set j none) (σ.set j none) := (re.step s1).unset j
  have rsD : RS K (w1.hide D (.lst [])) S1 := rs1.hide hD
  have sD := hide_step (p := D) (o := .lst []) rs1 hD
  have nD : ∀ a, w1.hid a → a ≠ D := fun a z => by
    obtain ⟨⟨o, q⟩, _⟩ := rs1.hid a z
    exact ne_of_none q hD
  refine ⟨fun i m H => ∃ w' S' acc vacc, w'.H = H ∧ m = all.length - i ∧ i ≤ all.length ∧ (Step w1 w' ∧ w'.hid D) ∧ RS K w' S' ∧ H D = some (.lst vacc) ∧ RDs K w' acc vacc ∧ acc.length ≤ i ∧ src S' = some all ∧
    compL j tt te src all (ρ.set j none) (all.drop i) S' acc fun acc S2 => Q0 (.lst acc) S2, ⟨all.length, w1.hide D (.lst []), S1, [], [], rfl, rfl, Nat.zero_le _, ⟨sD, .inr rfl⟩, rsD, upd_same, .nil, Nat.zero_le _, hs0, hf⟩, ?_⟩
  rintro i m H ⟨w', S', acc, vacc, rfl, rfl, hi, ⟨st, dh⟩, rs', hHD, ta, la, hsrc, hc⟩
  have st1 : Step w1 w' := st
  by_cases hlt : i < all.length
  · refine .inr ⟨jd.go i w' S' st1 rs' hsrc hlt, fun H2 => ∃ w2 S2 acc vacc, w2.H = H2 ∧ (Step w1 w2 ∧ w2.hid D) ∧ RS K w2 S2 ∧ H2 D = some (.lst vacc) ∧ RDs K w2 acc vacc ∧ acc.length ≤ i + 1 ∧ src S2 = some all ∧
        compL j tt te src all (ρ.set j none) (all.drop (i + 1)) S2 acc fun acc S2 => Q0 (.lst acc) S2,
      fun H2 ⟨w2, S2, ac, vc, e, s2, r2, q2, t2, l2, h2, f2⟩ => ⟨all.length - (i + 1), by omega, w2, S2, ac, vc, e, rfl, hlt, s2, r2, q2, t2, l2, h2, f2⟩, fun x H' y => ?_⟩
    have hd : all[i]? = some all[i] := List.getElem?_eq_getElem hlt
    obtain ⟨wy, eH, sy, ry, rv⟩ := jd.yld i w' S' x H' st1 rs' hsrc y _ hd
    rw [List.drop_eq_getElem_cons hlt] at hc
    have rE : RE K wy ((ρ.set j none).set j (some all[i])) ((σ.set j none).set j (some x)) := (reW.step (st.trans sy)).set rv j
    have st := st.trans sy
    have hHD : wy.H D = some (.lst vacc) := (sy.hs D dh).trans hHD
    have dh := sy.hd D dh
    have ta := ta.step sy
    refine ⟨?_, wy, S', _, _, eH, ry S' rs', rE, hc, fun b S3 w3 q3 s3 rs3 => ?_⟩
    · show ((σ.set j none).set j (some x)).set j none = σ.set j none
      rw [List.set_set, List.set_set]
    have hD3 : w3.H D = some (.lst vacc) := (s3.hs D dh).trans hHD
    cases b with
    | false => exact ⟨w3, S3, acc, vacc, rfl, ⟨st.trans s3, s3.hd D dh⟩, rs3, hD3, ta.step s3, Nat.le_succ_of_le la, q3.1, q3.2⟩
    | true =>
      refine ⟨w3, S3, _, _, rfl, rs3, rE.step s3, q3, fun y S4 w4 u q4 s4 rs4 r4 => ?_⟩
      have st4 := (st.trans s3).trans s4
      have h4 := s4.hd D (s3.hd D dh)
      have hD4 : w4.H D = some (.lst vacc) := (s4.hs D (s3.hd D dh)).trans hD3
      have ta4 := (ta.step s3).step s4
      refine ⟨vacc, hD4, by rw [← ta4.length]; omega, w4.grow D (.lst (vacc ++ [u])), S4, acc ++ [y], vacc ++ [u], rfl, ⟨⟨st4.n, st4.φ, fun a o e nb => ?_, st4.hd, fun a z => (upd_ne (nD a z)).trans (st4.hs a z)⟩, h4⟩, rs4.grow h4, upd_same, (ta4.append (.cons r4 .nil)).grow h4, by rw [List.length_append]; simp; omega, q4.1, q4.2⟩
      · obtain ⟨q1, q2⟩ := st4.st a o e nb
        exact ⟨(upd_ne fun z => q2 (by rw [z]; exact .inr h4)).trans q1, q2⟩
  · have e : i = all.length := by omega
    subst e
    rw [List.drop_length] at hc
    have hh : ∀ a, w1.hid a → w'.hid a := st.hd
    refine .inl ⟨jd.stop _ w' S' st1 rs' hsrc (Nat.le_refl _), k _ S' (w'.show_ w1.hid) (.ref D) hc (s1.trans ⟨st.n, st.φ, fun a o e nb => ?_, fun _ z => z, st.hs⟩) (rs'.bare hh) (.lst (.inl ⟨.inl hHD, fun z => ?_⟩) (by omega) (ta.bare hh))⟩
    · obtain ⟨q1, q2⟩ := st.st a o e nb
      exact ⟨q1, fun z => q2 (z.imp id (hh a))⟩
    rcases z with z | z
    · exact (rs'.hid D dh).2 z
    · obtain ⟨⟨o, q⟩, _⟩ := rs1.hid D z
      rw [hD] at q
      cases q
end
end Pv

/-! enumerate over a list or a tuple, by data. -/
namespace PySem
open Sem (wp)
theorem mk_enum1 {v : Value} {ob : Obj} {Hh : Heap → Prop} (B : Begins v ob Hh) :
    Meets (Builtin.«enumerate.__new__» ⟨[.type "enumerate", v], []⟩) (fun _ R s => Hh s.heap ∧
      R (.ok (.ret (.ref (s.heap.push ob).objs.size))) { s with heap := (s.heap.push ob).push { cls := .type "enumerate", data := .fields #[.none, .bool false, .ref s.heap.objs.size, rawInt 0, .none, .none] } }) :=
  .of_wp fun prog w A R s hh => by
    obtain ⟨hp, g, d, tk, os⟩ := s
    obtain ⟨b1, fin⟩ := hh
    have hsub := sub_enumerate
    have step : ∀ {A' : Around} {E : Value → Shared → Prop} {Q : Value → Shared → Prop}, Q (.ref hp.objs.size) ⟨hp.push ob, g, d, tk, os⟩ → wpAny (model prog w) A' (pyIter v) Q E ⟨hp, g, d, tk, os⟩ :=
      fun q => B.iter prog w _ _ ⟨hp, g, d, tk, os⟩ _ b1 q
    wp_walk using step
    refine wpAny_stack_any fun stk => wpAny_pure ?_
    split
    · rename_i c _ _ _ _ _
      cases (c == Value.type "enumerate")
      · wp_walk using step
        exact ⟨_, rfl, fin⟩
      · wp_walk using step
        exact ⟨_, rfl, fin⟩
    · wp_walk using step
      exact ⟨_, rfl, fin⟩
section
variable {prog : Program} {w : World} {A : Around} {E : Value → Shared → Prop} {s : Shared}
theorem enum1_of {v : Value} {ob : Obj} {Hh : Heap → Prop} {Q : Value → Shared → Prop} (B : Begins v ob Hh) (b1 : Hh s.heap)
    (fin : ∀ h', IsEnum h' (s.heap.objs.size + 1) s.heap.objs.size 0 .none → h'.get? s.heap.objs.size = some ob →
      (∀ b u, s.heap.get? b = some u → h'.get? b = some u) → Q (.ref (s.heap.objs.size + 1)) { s with heap := h' }) :
    wpAny (model prog w) A (call (.type "enumerate") [v]) Q E s := by
  refine callType_new F.called_enumerate (by decide) (F.typeCall_enumerate_1 _) (F.newCall_enumerate_1 _) (fun obj => F.args_object_init_2 obj _) F.entry_enumerate_new (mk_enum1 B) ⟨b1, ?_⟩
  have size1 : (s.heap.push ob).objs.size = s.heap.objs.size + 1 := Heap.size_push ..
  show _ ∧ _
  rw [size1]
  have there := Heap.get?_push_size (s.heap.push ob) (o := { cls := .type "enumerate", data := .fields #[.none, .bool false, .ref s.heap.objs.size, rawInt 0, .none, .none] }) rfl
  rw [size1] at there
  exact ⟨⟨_, there, rfl⟩, fin _ there (Heap.get?_push_of_some _ (Heap.get?_push_size _ B.free)) fun b u x => Heap.get?_push_of_some _ (Heap.get?_push_of_some _ x)⟩
end
end PySem
namespace Pv
open PySem L2 PySem.Spec PyProof.Rows
variable {K : PySem.W.Frag} {w : Wd} {S : Store}
/-- the tuple at a, each item in a new pair -/
def Ien (K : PySem.W.Frag) (a : Addr) : It :=
  ⟨fun i H => ∃ (xs : List V) (x : V), SqT K H a xs ∧ xs[i]? = some x, fun i H v H' => ∃ T x, v = .ref T ∧ H T = none ∧ H' = upd H T (.tup [.int (i : Nat), x]) ∧ ∀ xs, SqT K H a xs → xs[i]? = some x, fun i H => ∃ xs : List V, SqT K H a xs ∧ xs.length ≤ i⟩
theorem turn_en {P : Program} {w : World} {elts : List Expr} {kk : Nat} {tpos : Pos} (a e it : Addr) :
    Turn P w K (.Tuple elts kk tpos) (Ien K a) [e, it] e (fun i h => (∃ old, IsEnum h e it ((i : Nat) : Int) old) ∧ h.IsTupleIter it a i ∧ e ≠ it ∧ a ≠ it ∧ a ≠ e) where
  mem := by simp
  obj := fun i h ⟨⟨old, he⟩, ⟨o, ho, _, hd⟩, _⟩ b hb => by
    rcases List.mem_cons.mp hb with z | z
    · subst z
      exact ⟨_, he, fun v q => nomatch q⟩
    · rw [List.mem_singleton.mp z]
      exact ⟨o, ho, fun v q => by rw [hd] at q; cases q⟩
  keep := fun i h h' ⟨⟨old, he⟩, hi, ne⟩ k => ⟨⟨old, k e (by simp) _ he⟩, hi.at fun o q => k it (by simp) o q, ne⟩
  item := by
    intro X hP hw hK hc i pins s σ H E I hf ⟨⟨old, he⟩, hti, n1, n2, n3⟩ ⟨xs, x, hq, hx⟩
    subst hP hw hK
    obtain ⟨its, rv, pt, hz⟩ := I.tuple hq
    have pt' : s.heap.IsTuple a its.toArray := pt
    obtain ⟨u, hu, ru⟩ := rv.get hx
    have le : e < s.heap.objs.size := Heap.lt_size he
    have li : it < s.heap.objs.size := by
      obtain ⟨_, q, _⟩ := hti
      exact Heap.lt_size q
    have hil : i < its.toArray.size := by
      have := (List.getElem?_eq_some_iff.mp hu).1
      simpa using this
    refine wpAny_pyNext_enum_itemD (Draws.tuple (show X.A.in1.handled = none from I.ok.hd hc) it a n2 its.toArray) he ⟨hti, pt'⟩ hil n1 (by simp [n1, Ne.symm n3]) fun y h' tk hy ho hst hT hsz hk => ?_
    have ey : y = u := by
      have hy : its.toArray[i]? = some y := hy
      have hy2 : its[i]? = some y := by simpa using hy
      rw [hu] at hy2
      exact (Option.some.inj hy2).symm
    subst ey
    refine ⟨_, rfl, wpAny_letOwnedTupleGo_enum (s := { s with heap := h', toks := tk + 1 }) ho fun h2 he2 sb => ?_⟩
    have hT2 : h2.get? s.heap.objs.size = some { cls := .type "tuple", data := .seq #[.int i tk, y] } := (sb.2 _ (Nat.ne_of_gt le)).trans hT
    have nw : ObjOk X.prog X.w (upd H s.heap.objs.size (.tup [.int (i : Nat), x])) h2 s.heap.objs.size (.tup [.int (i : Nat), x]) :=
      ⟨by show 2 ≤ sizeLine; decide, [.int i tk, y], .cons ⟨_, rfl⟩ (.cons ru .nil), ⟨_, hT2, rfl, _, rfl⟩⟩
    have I2 : Inv X pins σ (upd H s.heap.objs.size (.tup [.int (i : Nat), x])) { s with heap := h2, toks := tk + 1 } :=
      I.turnedNew (ch := [e, it]) (fun b ob nb q => (sb.2 b fun z => nb (by simp [z])).trans (hk b ob (fun z => nb (by simp [z])) (fun z => nb (by simp [z])) q)) hf (Nat.le_refl _) nw
    refine ⟨.ref s.heap.objs.size, _, I2, rfl, ⟨_, x, rfl, I.hok.fresh (Nat.le_refl _), rfl, fun ys hy => by rw [I.tuple_inj hy hq]; exact hx⟩, ⟨⟨y, ?_⟩, hst.1.at fun o q => (sb.2 it (Ne.symm n1)).trans q, n1, n2, n3⟩, fun b hb => ?_⟩
    · have e1 : ((i + 1 : Nat) : Int) = (i : Int) + 1 := by omega
      rw [e1]
      exact he2
    · have lb : b < s.heap.objs.size := by
        rcases List.mem_cons.mp hb with z | z
        · rw [z]
          exact le
        · rw [List.mem_singleton.mp z]
          exact li
      rw [upd_ne (Nat.ne_of_lt lb)]
      exact (hf b hb).1
  done := by
    intro X hP hw hK hc i pins s σ H E I hf ⟨⟨old, he⟩, hti, n1, n2, n3⟩ ⟨xs, hq, hx⟩
    subst hP hw hK
    obtain ⟨its, rv, pt, hz⟩ := I.tuple hq
    have pt' : s.heap.IsTuple a its.toArray := pt
    obtain ⟨f0, f1, f2, f3, f4, f5⟩ := hf it (by simp)
    have hl := rv.length
    have hT : s.TypeIs (.ref e) "enumerate" := ⟨_, he, rfl⟩
    unfold pyNext
    refine wpAny_bind (wpAny_attempt (wpAny_callSpecial?_slot (name := Str.ofString "__next__") hT F.slot_enumerate_next (wpAny_call_entry F.slot_enumerate_next hT F.entry_enumerate_next ?_ (F.args_enumerate_next_1 _))))
    show wpAny _ _ (field (.ref e) 2 >>= _) _ _ _
    refine wpAny_bind (wpAny_field he rfl (x := .ref it) rfl ?_)
    refine wpAny_bind (wpAny_nextOf_tuple_end (show X.A.in1.handled = none from I.ok.hd hc) hti pt' (by simp; omega) fun h' x ext hx' => ?_)
    obtain ⟨o, ho, hcl⟩ := hx'
    refine wpAny_bind (wpAny_isInstance (T := "StopIteration") (b := true) ⟨o, ho, hcl⟩ isSubtype_stop ?_)
    exact wpAny_pure ⟨rfl, I.turned (t' := s.toks) (fun b o hb q => ext b o hb q) f0 f1 f3 f4 f5⟩
  self := fun A i s Q E ⟨⟨_, he⟩, _⟩ h => wpAny_pyIter_enum he h
/-- enumerate of a list or of a tuple -/
def iEnA (K : PySem.W.Frag) (ta : TA) : TI := fun σ H R => ta σ H fun vs H1 => ∃ a, vs = [.ref a] ∧ (((∃ xs, SqL K H1 a xs) ∧ R (Ite K a) H1) ∨ ((∃ xs, SqT K H1 a xs) ∧ R (Ien K a) H1))
section
variable {X : Cx} {e : Expr} {p pos tpos : Pos} {elts : List Expr} {kk : Nat}
theorem pi_enA {ta : TA} (hg : Gl X "enumerate") (hm : X.mg "enumerate" = none) (ha : PA X [e] ta) (hs : starEach [e] X.env = [(false, eval e X.env)]) :
    PI X (.Tuple elts kk tpos) (.Call (.Name "enumerate" p) [e] [] pos) (iEnA X.K ta) := by
  refine ⟨fun pins s σ H R I h => ?_⟩
  refine Call_ (ld_blt I hg hm boot_enumerate (PyProof.Rows.callWith_type1 (thn (ha.run pos pins s σ H _ I h) fun us s1 ⟨vs, H1, I1, r1, a, ex, q1⟩ => ?_) hs rfl))
  subst ex
  cases r1 with
  | cons r rr =>
    cases rr
    cases r
    have lo : ∀ b, b = s1.heap.objs.size + 1 ∨ b = s1.heap.objs.size → FpOk X pins H1 b := fun b hb => by
      have le : s1.heap.objs.size ≤ b := by
        rcases hb with z | z <;> omega
      exact I1.fpOk le (I1.hok.fresh le)
    have lo2 : ∀ b ∈ [s1.heap.objs.size + 1, s1.heap.objs.size], FpOk X pins H1 b := fun b hb => lo b (by simpa using hb)
    rcases q1 with ⟨⟨xs, hq⟩, q⟩ | ⟨⟨xs, hq⟩, q⟩
    · obtain ⟨its, rv, pl, hz⟩ := I1.list hq
      exact call_enumerate_list pl.isList fun h' he hit hsz hk => wpAny_pyIter_enum he ⟨s1.heap.objs.size + 1, [s1.heap.objs.size + 1, s1.heap.objs.size], _, _, H1, rfl, I1.kept (t' := s1.toks) hk, turn_enum a (s1.heap.objs.size + 1) s1.heap.objs.size, ⟨⟨.none, he⟩, hit, Nat.succ_ne_self _⟩, lo2, q⟩
    · obtain ⟨its, rv, pt, hz⟩ := I1.tuple hq
      have pt' : s1.heap.IsTuple a its.toArray := pt
      have la : a < s1.heap.objs.size := by
        obtain ⟨_, q, _⟩ := pt'
        exact Heap.lt_size q
      exact enum1_of (begins_tuple a its.toArray) pt' fun h' he hit hk => wpAny_pyIter_enum he ⟨s1.heap.objs.size + 1, [s1.heap.objs.size + 1, s1.heap.objs.size], _, _, H1, rfl, I1.kept (t' := s1.toks) hk, turn_en a (s1.heap.objs.size + 1) s1.heap.objs.size, ⟨⟨.none, he⟩, ⟨_, hit, rfl, rfl⟩, Nat.succ_ne_self _, Nat.ne_of_lt la, Nat.ne_of_lt (Nat.lt_succ_of_lt la)⟩, lo2, q⟩
end
/-- the pairs -/
def enD : Nat → List D → List D
  | _, [] => []
  | i, x :: xs => .tup [.int (i : Nat), x] :: enD (i + 1) xs
theorem enD_len : ∀ (i : Nat) (xs : List D), (enD i xs).length = xs.length
  | _, [] => rfl
  | i, x :: xs => by
    unfold enD
    rw [List.length_cons, List.length_cons, enD_len (i + 1) xs]
theorem enD_at : ∀ (i : Nat) (xs : List D) (j : Nat) (d : D), (enD i xs)[j]? = some d → ∃ x, xs[j]? = some x ∧ d = .tup [.int ((i + j : Nat) : Int), x]
  | _, [], j, d, h => by
    simp [enD] at h
  | i, x :: xs, 0, d, h => by
    simp only [enD, List.getElem?_cons_zero, Option.some.injEq] at h
    exact ⟨x, rfl, h.symm⟩
  | i, x :: xs, j + 1, d, h => by
    simp only [enD, List.getElem?_cons_succ] at h
    obtain ⟨y, hy, e⟩ := enD_at (i + 1) xs j d h
    exact ⟨y, hy, by rw [e]; congr 4; omega⟩
def iEn (t : WE) : WI := fun ρ S Q => t ρ S fun d S1 => ∃ xs, seqX S1 d = some xs ∧ Q (fun S => (seqX S d).map (enD 0)) (enD 0 xs) S1
section
variable {X : Cx} {e : Expr} {p pos tpos : Pos} {elts : List Expr} {kk : Nat} {ta : WE}
/-- a new pair, by data -/
theorem pair_y {x : V} {d : D} {i : Nat} {T : Addr} (rs : RS K w S) (hT : w.H T = none) (r : RD K w d x) : ∃ w', w'.H = upd w.H T (.tup [.int (i : Nat), x]) ∧ Step w w' ∧ (∀ S', RS K w S' → RS K w' S') ∧ RD K w' (.tup [.int (i : Nat), d]) (.ref T) :=
  ⟨w.put T _, rfl, put_step rs hT, fun S' r' => r'.put hT, put_tup rs hT (show 2 ≤ sizeLine by decide) (.cons (.int _) (.cons r .nil))⟩
theorem qi_en (hg : Gl X "enumerate") (hm : X.mg "enumerate" = none) (he : PE X e (uE X.K ta)) (hs : starEach [e] X.env = [(false, eval e X.env)]) : PI X (.Tuple elts kk tpos) (.Call (.Name "enumerate" p) [e] [] pos) (uI X.K (iEn ta)) :=
  pi_of (pi_enA hg hm (pa_cons he pa_nil hs) hs) fun σ H R ⟨w, S, ρ, Q0, eH, rs, re, h, k⟩ => by
    subst eH
    refine ⟨w, S, ρ, _, rfl, rs, re, h, fun d S1 w1 v ⟨xs, hx, q⟩ s1 rs1 r1 => ?_⟩
    have r1' := id r1
    obtain ⟨pa, vs, rfl, hq, t, l⟩ := seqX_at rs1 r1 hx
    refine ⟨pa, rfl, ?_⟩
    have hx0 : (fun S => (seqX S d).map (enD 0)) S1 = some (enD 0 xs) := by
      show (seqX S1 d).map (enD 0) = _
      rw [hx]
      rfl
    by_cases ht : ∃ ys, d = .tup ys
    · obtain ⟨ys, rfl⟩ := ht
      cases hx
      cases r1' with
      | tup h1 h2 h3 =>
        refine .inr ⟨⟨_, h1.sq⟩, k _ _ S1 w1 _ q hx0 (by rw [enD_len]; exact l) s1 rs1 ?_⟩
        have stands : ∀ w2, Step w1 w2 → SqT X.K w2.H pa _ ∧ RDs X.K w2 xs _ := fun w2 s2 => ⟨(h1.step s2).sq, h3.step s2⟩
        refine ⟨fun i w2 S2 s2 rs2 e2 hi => ?_, fun i w2 S2 s2 rs2 e2 hi => ?_, fun i w2 S2 x H' s2 rs2 e2 y d hd => ?_⟩
        · obtain ⟨g1, g2⟩ := stands w2 s2
          rw [enD_len] at hi
          have hv := g2.length
          exact ⟨_, _, g1, List.getElem?_eq_getElem (by omega)⟩
        · obtain ⟨g1, g2⟩ := stands w2 s2
          rw [enD_len] at hi
          have hv := g2.length
          exact ⟨_, g1, by omega⟩
        · obtain ⟨g1, g2⟩ := stands w2 s2
          obtain ⟨T, z, rfl, hT, rfl, hz⟩ := y
          obtain ⟨u, hu, rfl⟩ := enD_at 0 xs i d hd
          obtain ⟨v2, hv2, rv2⟩ := g2.get hu
          have e3 := hz _ g1
          rw [hv2] at e3
          cases e3
          have q := pair_y (i := i) rs2 hT rv2
          rw [Nat.zero_add]
          exact q
    · have hL : ∀ S', seqX S' d = seqL S' d := fun S' => by
        cases d <;> first | rfl | exact absurd ⟨_, rfl⟩ ht
      have hx' := hx
      rw [hL] at hx'
      obtain ⟨p', vs', e', hq', _, _⟩ := seqL_at rs1 r1' hx'
      cases e'
      refine .inl ⟨⟨_, hq'⟩, k _ _ S1 w1 _ q hx0 (by rw [enD_len]; exact l) s1 rs1 ?_⟩
      have stands : ∀ w2 S2, Step w1 w2 → RS X.K w2 S2 → (seqX S2 d).map (enD 0) = some (enD 0 xs) → ∃ ys vs2, enD 0 ys = enD 0 xs ∧ SqL X.K w2.H pa vs2 ∧ RDs X.K w2 ys vs2 := fun w2 S2 s2 rs2 e2 => by
        rw [hL, Option.map_eq_some_iff] at e2
        obtain ⟨ys, hy, e3⟩ := e2
        obtain ⟨p2, vs2, e4, hq2, t2, _⟩ := seqL_at rs2 (r1'.step s2) hy
        cases e4
        exact ⟨ys, vs2, e3, hq2, t2⟩
      refine ⟨fun i w2 S2 s2 rs2 e2 hi => ?_, fun i w2 S2 s2 rs2 e2 hi => ?_, fun i w2 S2 x H' s2 rs2 e2 y d2 hd => ?_⟩
      · obtain ⟨ys, vs2, e3, g1, g2⟩ := stands w2 S2 s2 rs2 e2
        rw [← e3, enD_len] at hi
        have hv := g2.length
        exact ⟨_, _, g1, List.getElem?_eq_getElem (by omega)⟩
      · obtain ⟨ys, vs2, e3, g1, g2⟩ := stands w2 S2 s2 rs2 e2
        rw [← e3, enD_len] at hi
        have hv := g2.length
        exact ⟨_, g1, by omega⟩
      · obtain ⟨ys, vs2, e3, g1, g2⟩ := stands w2 S2 s2 rs2 e2
        obtain ⟨T, z, rfl, hT, rfl, hz⟩ := y
        rw [← e3] at hd
        obtain ⟨u, hu, rfl⟩ := enD_at 0 ys i d2 hd
        obtain ⟨v2, hv2, rv2⟩ := g2.get hu
        have e3 := hz _ g1
        rw [hv2] at e3
        cases e3
        have q := pair_y (i := i) rs2 hT rv2
        rw [Nat.zero_add]
        exact q
end
end Pv

/-! A tuple so many times; the place of an item in a list; isinstance of one of two classes. -/
namespace Pv
open PySem L2 PySem.Spec PyProof.Rows
variable {K : PySem.W.Frag} {w : Wd} {S : Store}
theorem times1 (l : Addr) (items : Array Value) (n : Nat) (dd : Option Addr) (sl : Array (Option Value)) (u : Tok) :
    Meets (Builtin.«tuple.__mul__» ⟨[.ref l, .int 1 u], []⟩) (fun _ R s => s.heap.get? l = some { cls := .type "tuple", dict := dd, data := .seq items n, slots := sl } ∧ R (.ok (.ret (Value.ref l))) s) :=
  .of_wp fun prog w A R s ⟨hl, fin⟩ => by
    obtain ⟨hp, g, d, tk, os⟩ := s
    have idx := AutoSeq1.idx_int
    have one : (items.isEmpty || (1 : Int) == 1) = true := by simp
    wp_walk using wpAny_loadPart' hl
    exact ⟨_, rfl, fin⟩
theorem timesE (l : Addr) (items : Array Value) (k : Int) (n : Nat) (dd : Option Addr) (sl : Array (Option Value)) (u : Tok) (he : items.isEmpty = true) (c0 : (decide (k < -(2 ^ 63)) || decide (k ≥ 2 ^ 63)) = false) :
    Meets (Builtin.«tuple.__mul__» ⟨[.ref l, .int k u], []⟩) (fun _ R s => s.heap.get? l = some { cls := .type "tuple", dict := dd, data := .seq items n, slots := sl } ∧ R (.ok (.ret (Value.ref l))) s) :=
  .of_wp fun prog w A R s ⟨hl, fin⟩ => by
    obtain ⟨hp, g, d, tk, os⟩ := s
    have idx := AutoSeq1.idx_int
    have one : (items.isEmpty || k == 1) = true := by simp [he]
    wp_walk using wpAny_loadPart' hl
    repeat (first
      | (refine wpAny_ite_false (decide_eq_false (by rw [c0]; exact Bool.false_ne_true)) ?_; wp_walk using wpAny_loadPart' hl)
      | (refine wpAny_ite_true (decide_eq_true one) ?_; wp_walk using wpAny_loadPart' hl))
    exact ⟨_, rfl, fin⟩
theorem times0 (l : Addr) (items : Array Value) (n : Nat) (dd : Option Addr) (sl : Array (Option Value)) (u : Tok) (some_ : items.isEmpty = false) :
    Meets (Builtin.«tuple.__mul__» ⟨[.ref l, .int 0 u], []⟩) (fun _ R s => s.heap.get? l = some { cls := .type "tuple", dict := dd, data := .seq items n, slots := sl } ∧
      R (.ok (.ret (.ref s.heap.objs.size))) { s with heap := s.heap.push { cls := .type "tuple", data := .seq #[] } }) :=
  .of_wp fun prog w A R s ⟨hl, fin⟩ => by
    obtain ⟨hp, g, d, tk, os⟩ := s
    have idx := AutoSeq1.idx_int
    wp_walk using wpAny_loadPart' hl
    exact ⟨_, rfl, fin⟩
theorem mul_go {prog : Program} {wo : World} {A : Around} {E : Value → Shared → Prop} {Q : Value → Shared → Prop} {s : Shared} {a : Addr} {n : Int} {t : Tok} {items : Array Value} {m : Nat} {dd : Option Addr} {sl : Array (Option Value)} {Sp : PySem.Spec}
    (ho : s.heap.get? a = some { cls := .type "tuple", dict := dd, data := .seq items m, slots := sl }) (M : Meets (Builtin.«tuple.__mul__» ⟨[.ref a, .int n t], []⟩) Sp) (h : Sp A (wants Q E) s) : wpAny (model prog wo) A (binaryOp .Mult (.ref a) (.int n t)) Q E s := by
  have T1 : s.TypeIs (.ref a) "tuple" := ⟨_, ho, rfl⟩
  have back := int_rmul_tuple n t a items m dd sl
  refine wpAny_binaryOp_repeat_ref (T := "tuple") (U := "int") (by decide) T1 (fun s' => typeIs_int s' n t) noFill_tuple_mul F.fills_int_mul F.slot_int_rmul repeat_tuple F.slot_int_index.lookup ?_
  refine call_meets F.slot_int_rmul (typeIs_int s n t) F.entry_int_rmul (F.args_int_rmul_2 _ _) back ⟨ho, rfl, T1, ?_⟩
  exact call_meets F.slot_tuple_mul T1 F.entry_tuple_mul (F.args_tuple_mul_2 _ _) M h
/-- a tuple, 0 up to 1000 times -/
def repD (xs : List D) (e : D) (S : Store) (Q : QE) : Prop := ∃ k, e = .int k ∧ 0 ≤ k ∧ k ≤ 1000 ∧ xs.length ≤ 1000 ∧ Q (.tup (List.replicate k.toNat xs).flatten) S
def mulT : O2 := fun d e S Q => match d with
  | .tup xs => repD xs e S Q
  | d => intD CMul (· * ·) d e S Q
theorem mul_int {i j : Int} {Q : QE} : mulT (.int i) (.int j) S Q ↔ (CMul i j ∧ Q (.int (i * j)) S) :=
  ⟨fun ⟨_, _, e1, e2, h⟩ => by cases e1; cases e2; exact h, fun h => ⟨_, _, rfl, rfl, h⟩⟩
theorem mul_tup {xs : List D} {k : Int} {Q : QE} : mulT (.tup xs) (.int k) S Q ↔ (0 ≤ k ∧ k ≤ 1000 ∧ xs.length ≤ 1000 ∧ Q (.tup (List.replicate k.toNat xs).flatten) S) :=
  ⟨fun ⟨_, e1, h⟩ => by cases e1; exact h, fun h => ⟨_, rfl, h⟩⟩
theorem rep_rds : ∀ {xs : List D} {vs : List V} (n : Nat), RDs K w xs vs → RDs K w (List.replicate n xs).flatten (List.replicate n vs).flatten
  | _, _, 0, _ => .nil
  | xs, vs, n + 1, h => by
    rw [List.replicate_succ, List.replicate_succ, List.flatten_cons, List.flatten_cons]
    exact h.append (rep_rds n h)
theorem flat_len {α : Type} (xs : List α) : ∀ n : Nat, (List.replicate n xs).flatten.length = n * xs.length
  | 0 => by simp
  | n + 1 => by
    rw [List.replicate_succ, List.flatten_cons, List.length_append, flat_len xs n, Nat.succ_mul, Nat.add_comm]
section
variable {X : Cx}
theorem op_mulT : OpR X (binaryOp .Mult) (u2 X.K mulT) := by
  rintro pins s σ H x y v u Q I rx ry ⟨w, S, d, e, Q0, rfl, rs, rd, re, h, k⟩
  unfold mulT at h
  split at h
  · rename_i xs
    obtain ⟨n, rfl, n0, n1, hl, q⟩ := h
    have rd' := id rd
    cases rd with
    | @tup a vs ds h1 h2 h3 =>
      have hv := h3.length
      cases re
      by_cases hne : xs = []
      · subst hne
        cases h3
        cases rx
        obtain ⟨t, rfl⟩ := ry
        obtain ⟨its, r, ⟨⟨cls, dd, data, sl⟩, ho, hc, m, hd⟩, hs⟩ := I.tuple h1.sq
        simp only at hc hd
        subst hc hd
        cases r
        refine mul_go ho (timesE a _ n m dd sl t rfl (by rw [decide_eq_false (by omega), decide_eq_false (by omega)] <;> rfl)) ⟨ho, ?_⟩
        have e1 : (List.replicate n.toNat ([] : List D)).flatten = [] := by simp
        rw [e1] at q
        exact ⟨.ref a, w.H, I, rfl, k _ S w _ q (Step.refl _) rs rd'⟩
      by_cases hk : 2 ≤ n
      · refine op_repT pins s σ w.H _ _ v u Q I rx ry ⟨a, n, vs, rfl, rfl, h1.sq, fun z => hne (by
          subst z
          cases h3
          rfl), hk, n1, by omega, fun p hp => fresh_kT k rs q ?_ (rep_rds _ h3) p hp⟩
        rw [flat_len, sizeLine_eq]
        have a1 : n.toNat * xs.length ≤ 1000 * 1000 := Nat.mul_le_mul (by omega) hl
        omega
      · cases rx
        obtain ⟨t, rfl⟩ := ry
        obtain ⟨its, r, ⟨⟨cls, dd, data, sl⟩, ho, hc, m, hd⟩, hs⟩ := I.tuple h1.sq
        simp only at hc hd
        subst hc hd
        have cases2 : n = 0 ∨ n = 1 := by omega
        rcases cases2 with rfl | rfl
        · have he : its.toArray.isEmpty = false := by
            cases r with
            | nil =>
              cases h3
              exact absurd rfl hne
            | cons _ _ => simp
          refine mul_go ho (times0 a its.toArray m dd sl t he) ⟨ho, ?_⟩
          have nw : ObjOk X.prog X.w (upd w.H s.heap.objs.size (.tup [])) (s.heap.push { cls := .type "tuple", data := .seq #[] }) s.heap.objs.size (.tup []) :=
            ⟨Nat.zero_le _, [], .nil, IsTup.new _ _⟩
          exact ⟨.ref s.heap.objs.size, _, I.laid (t' := s.toks) (o := .tup []) (fun b ob q => Heap.get?_push_of_some _ q) (Nat.le_refl _) nw, rfl, fresh_kT k rs q (Nat.zero_le _) .nil _ (I.hok.fresh (Nat.le_refl _))⟩
        · refine mul_go ho (times1 a its.toArray m dd sl t) ⟨ho, ?_⟩
          have e1 : (List.replicate (1 : Int).toNat xs).flatten = xs := by
            show (List.replicate 1 xs).flatten = xs
            simp
          rw [e1] at q
          exact ⟨.ref a, w.H, I, rfl, k _ S w _ q (Step.refl _) rs rd'⟩
  · exact op_mulI pins s σ w.H _ _ v u Q I rx ry ⟨w, S, _, _, Q0, rfl, rs, rd, re, h, k⟩
end
/-! ### the place of an item in a list -/
def idxM : D → List D → Store → QE → Prop := fun o ys S Q => ∃ xs as y a j z, ys = [y] ∧ seqL S o = some xs ∧ pys xs = some as ∧ py y = some a ∧ SeqAt.shaped (.list as) = true ∧ SeqAt.shaped a = true ∧ as[j]? = some z ∧ PyData.eqv z a = true ∧ (∀ m z', m < j → as[m]? = some z' → PyData.eqv z' a = false) ∧ Q (.int (j : Nat)) S
section
variable {X : Cx}
theorem mt_idxQ (hu : X.A.units + 65 < cLine) : MtR X "list.index" (uM X.K idxM) := by
  rintro pins s σ H x vs v us Q I rx rv ⟨w, S, d, ds, Q0, rfl, rs, rd, rds, ⟨xs, as, y, a, j, z, rfl, hx, has, ha, sl, sa, hz, hq, hm, q⟩, k⟩
  cases rds with
  | cons ry rn =>
    cases rn
    obtain ⟨p, us', rfl, hs, t, _⟩ := seqL_at rs rd hx
    exact mt_indexD hu pins s σ w.H _ _ v us Q I rx rv ⟨p, _, a, as, j, z, rfl, rfl, .lst hs (pys_dp t has), py_dp ry ha, sl, sa, hz, hq, hm, k _ S w _ q (Step.refl _) rs (.int _)⟩
end
/-! ### isinstance of one of two classes -/
def isi2D (c c' : String) : O1 := fun d S Q => ∃ n, tyN S d = some n ∧ Q (.bl (isiB n c || isiB n c')) S
section
variable {X : Cx}
/-- two classes, laid as a tuple -/
def rCls2 (K : PySem.W.Frag) (c c' : String) : List V → Hp → VK → Prop := fun xs H Q => ∃ (x : V) (tp : Addr), xs = [x, .ref tp] ∧ H tp = some (.tup [.ty c, .ty c']) ∧ u1 K (isi2D c c') x H Q
theorem call_isi2 {c c' : String} (hc : c ∈ ["bool", "int", "str", "tuple", "list", "dict"]) (hc' : c' ∈ ["bool", "int", "str", "tuple", "list", "dict"]) : CallR X (.builtin "isinstance") (rCls2 X.K c c') := by
  rintro pins s σ H xs us Q I r ⟨x, tp, rfl, hT, w, S, d, Q0, rfl, rs, rd, ⟨n, hn, q⟩, k⟩
  have kk : PySem.W.kitAny X.K (.type n) [.type c, .type c'] = some (isiB n c || isiB n c') := by
    refine kitAny_cons (b := isiB n c) (kit_ty (kit_all (tyN_mem hn) hc)) (fun e => ?_) (fun e => by rw [e]; rfl)
    rw [e, Bool.false_or]
    refine kitAny_cons (b := isiB n c') (kit_ty (kit_all (tyN_mem hn) hc')) (fun e => ?_) (fun e => e)
    rw [e]
    exact kitAny_nil
  exact call_isiT pins s σ w.H _ us Q I r ⟨x, tp, _, .type n, _, _, rfl, hT, .cons (.ty c) (.cons (.ty c') .nil), tyx rs rd hn, kk, k _ S w _ q (Step.refl _) rs (.bl _)⟩
end
end Pv

/-! Comprehensions whose target is a tuple of names. -/
namespace Pv
open PySem L2 PySem.Spec PyProof.Rows
variable {K : PySem.W.Frag} {w : Wd} {S : Store}
def setsV (σ : L2.St) : List Nat → List V → L2.St
  | j :: js, v :: vs => setsV (σ.set j (some v)) js vs
  | _, _ => σ
def setsE (ρ : Env) : List Nat → List D → Env
  | j :: js, d :: ds => setsE (ρ.set j (some d)) js ds
  | _, _ => ρ
def wipeE (ρ : Env) : List Nat → Env
  | [] => ρ
  | j :: js => (wipeE ρ js).set j none
theorem wipe_get (σ : L2.St) : ∀ (js : List Nat) (i : Nat), (wipe σ js)[i]? = if i ∈ js then (if i < σ.length then some none else none) else σ[i]?
  | [], i => by simp [wipe]
  | j :: js, i => by
    unfold wipe
    by_cases h : j = i
    · subst h
      rw [if_pos (by simp)]
      by_cases hl : j < σ.length
      · rw [List.getElem?_set_self (by rw [wipe_length]; exact hl), if_pos hl]
      · rw [List.getElem?_eq_none (by rw [List.length_set, wipe_length]; omega), if_neg hl]
    · rw [List.getElem?_set_ne h, wipe_get σ js i]
      have e : (i ∈ j :: js) ↔ i ∈ js := by
        rw [List.mem_cons]
        exact ⟨fun z => z.elim (fun z => absurd z.symm h) id, .inr⟩
      by_cases hm : i ∈ js
      · rw [if_pos hm, if_pos (e.mpr hm)]
      · rw [if_neg hm, if_neg (fun z => hm (e.mp z))]
theorem setsV_length : ∀ (js : List Nat) (vs : List V) (σ : L2.St), (setsV σ js vs).length = σ.length
  | [], _, _ => by unfold setsV; rfl
  | _ :: _, [], _ => by unfold setsV; rfl
  | j :: js, v :: vs, σ => by
    unfold setsV
    rw [setsV_length js vs, List.length_set]
theorem setsV_get : ∀ (js : List Nat) (vs : List V) (σ : L2.St) (i : Nat), i ∉ js → (setsV σ js vs)[i]? = σ[i]?
  | [], _, _, _, _ => by unfold setsV; rfl
  | _ :: _, [], _, _, _ => by unfold setsV; rfl
  | j :: js, v :: vs, σ, i, h => by
    rw [List.mem_cons, not_or] at h
    unfold setsV
    rw [setsV_get js vs _ i h.2, List.getElem?_set_ne (Ne.symm h.1)]
theorem wipe_sets (σ : L2.St) (js : List Nat) (vs : List V) : wipe (setsV (wipe σ js) js vs) js = wipe σ js := by
  refine List.ext_getElem? fun i => ?_
  rw [wipe_get, setsV_length, wipe_length, wipe_get]
  by_cases h : i ∈ js
  · rw [if_pos h, if_pos h]
  · rw [if_neg h, if_neg h, setsV_get _ _ _ _ h, wipe_get, if_neg h]
theorem RE.wipes {ρ : Env} {σ : L2.St} (h : RE K w ρ σ) : ∀ js : List Nat, RE K w (wipeE ρ js) (wipe σ js)
  | [] => h
  | j :: js => (h.wipes js).unset j
theorem RE.sets : ∀ {js : List Nat} {ds : List D} {vs : List V} {ρ : Env} {σ : L2.St}, RE K w ρ σ → RDs K w ds vs → RE K w (setsE ρ js ds) (setsV σ js vs)
  | [], _, _, _, _, h, _ => by unfold setsE setsV; exact h
  | _ :: _, _, _, _, _, h, .nil => by unfold setsE setsV; exact h
  | j :: js, _, _, _, _, h, .cons r t => by
    unfold setsE setsV
    exact RE.sets (h.set r j) t
def gFlat (K : PySem.W.Frag) (js : List Nat) : TG := fun x σ H Q => ∃ a vs, x = .ref a ∧ SqT K H a vs ∧ vs.length = js.length ∧ Q (setsV σ js vs) H
def gsFlat (js : List Nat) : TGs := fun vs σ H Q => vs.length = js.length ∧ Q (setsV σ js vs) H
def compLT (js : List Nat) (tt : WT) (te : WE) (src : Store → Option (List D)) (all : List D) (ρ : Env) : List D → Store → List D → QA → Prop
  | [], S, acc, Q => Q acc S
  | x :: xs, S, acc, Q => ∃ ys, x = .tup ys ∧ ys.length = js.length ∧ tt (setsE ρ js ys) S fun b S1 => if b = true then te (setsE ρ js ys) S1 fun y S2 => src S2 = some all ∧ compLT js tt te src all ρ xs S2 (acc ++ [y]) Q else src S1 = some all ∧ compLT js tt te src all ρ xs S1 acc Q
def wCompT (it : WI) (js : List Nat) (tt : WT) (te : WE) : WE := fun ρ S Q => it ρ S fun src all S1 => compLT js tt te src all (wipeE ρ js) all S1 [] fun acc S2 => Q (.lst acc) S2
section
variable {X : Cx}
theorem comp_uT {it : WI} {js : List Nat} {tt : WT} {te : WE} {σ : L2.St} {w : Wd} {ρ : Env} {Q0 : QE} {Q : VK} (rs : RS K w S) (re : RE K w ρ σ) (h : wCompT it js tt te ρ S Q0) (k : KtE K w Q0 Q) : tLc (uI K it) (gFlat K js) (uT K tt) (uE K te) js σ w.H Q := by
  refine ⟨w, S, ρ, _, rfl, rs, re, h, fun src all S1 w1 J hf hs0 hlen s1 rs1 jd D hD => ?_⟩
  have reW : RE K w1 (wipeE ρ js) (wipe σ js) := (re.step s1).wipes js
  have rsD : RS K (w1.hide D (.lst [])) S1 := rs1.hide hD
  have sD := hide_step (p := D) (o := .lst []) rs1 hD
  have nD : ∀ a, w1.hid a → a ≠ D := fun a z => by
    obtain ⟨⟨o, q⟩, _⟩ := rs1.hid a z
    exact ne_of_none q hD
  refine ⟨fun i m H => ∃ w' S' acc vacc, w'.H = H ∧ m = all.length - i ∧ i ≤ all.length ∧ (Step w1 w' ∧ w'.hid D) ∧ RS K w' S' ∧ H D = some (.lst vacc) ∧ RDs K w' acc vacc ∧ acc.length ≤ i ∧ src S' = some all ∧
    compLT js tt te src all (wipeE ρ js) (all.drop i) S' acc fun acc S2 => Q0 (.lst acc) S2, ⟨all.length, w1.hide D (.lst []), S1, [], [], rfl, rfl, Nat.zero_le _, ⟨sD, .inr rfl⟩, rsD, upd_same, .nil, Nat.zero_le _, hs0, hf⟩, ?_⟩
  rintro i m H ⟨w', S', acc, vacc, rfl, rfl, hi, ⟨st, dh⟩, rs', hHD, ta, la, hsrc, hc⟩
  have st1 : Step w1 w' := st
  by_cases hlt : i < all.length
  · refine .inr ⟨jd.go i w' S' st1 rs' hsrc hlt, fun H2 => ∃ w2 S2 acc vacc, w2.H = H2 ∧ (Step w1 w2 ∧ w2.hid D) ∧ RS K w2 S2 ∧ H2 D = some (.lst vacc) ∧ RDs K w2 acc vacc ∧ acc.length ≤ i + 1 ∧ src S2 = some all ∧
        compLT js tt te src all (wipeE ρ js) (all.drop (i + 1)) S2 acc fun acc S2 => Q0 (.lst acc) S2,
      fun H2 ⟨w2, S2, ac, vc, e, s2, r2, q2, t2, l2, h2, f2⟩ => ⟨all.length - (i + 1), by omega, w2, S2, ac, vc, e, rfl, hlt, s2, r2, q2, t2, l2, h2, f2⟩, fun x H' y => ?_⟩
    have hd : all[i]? = some all[i] := List.getElem?_eq_getElem hlt
    obtain ⟨wy, eH, sy, ry, rv⟩ := jd.yld i w' S' x H' st1 rs' hsrc y _ hd
    rw [List.drop_eq_getElem_cons hlt] at hc
    obtain ⟨ys, ey, ly, hc⟩ := hc
    rw [ey] at rv
    cases rv with
    | @tup pa vs _ hq1 hq2 hq3 =>
    have rE : RE K wy (setsE (wipeE ρ js) js ys) (setsV (wipe σ js) js vs) := (reW.step (st.trans sy)).sets hq3
    have st := st.trans sy
    have hHD : wy.H D = some (.lst vacc) := (sy.hs D dh).trans hHD
    have dh := sy.hd D dh
    have ta := ta.step sy
    refine ⟨pa, vs, rfl, by rw [← eH]; exact hq1.sq, by rw [← hq3.length]; exact ly, wipe_sets σ js vs, wy, S', _, _, eH, ry S' rs', rE, hc, fun b S3 w3 q3 s3 rs3 => ?_⟩
    have hD3 : w3.H D = some (.lst vacc) := (s3.hs D dh).trans hHD
    cases b with
    | false => exact ⟨w3, S3, acc, vacc, rfl, ⟨st.trans s3, s3.hd D dh⟩, rs3, hD3, ta.step s3, Nat.le_succ_of_le la, q3.1, q3.2⟩
    | true =>
      refine ⟨w3, S3, _, _, rfl, rs3, rE.step s3, q3, fun y S4 w4 u q4 s4 rs4 r4 => ?_⟩
      have st4 := (st.trans s3).trans s4
      have h4 := s4.hd D (s3.hd D dh)
      have hD4 : w4.H D = some (.lst vacc) := (s4.hs D (s3.hd D dh)).trans hD3
      have ta4 := (ta.step s3).step s4
      refine ⟨vacc, hD4, by rw [← ta4.length]; omega, w4.grow D (.lst (vacc ++ [u])), S4, acc ++ [y], vacc ++ [u], rfl, ⟨⟨st4.n, st4.φ, fun a o e nb => ?_, st4.hd, fun a z => (upd_ne (nD a z)).trans (st4.hs a z)⟩, h4⟩, rs4.grow h4, upd_same, (ta4.append (.cons r4 .nil)).grow h4, by rw [List.length_append]; simp; omega, q4.1, q4.2⟩
      · obtain ⟨q1, q2⟩ := st4.st a o e nb
        exact ⟨(upd_ne fun z => q2 (by rw [z]; exact .inr h4)).trans q1, q2⟩
  · have e : i = all.length := by omega
    subst e
    rw [List.drop_length] at hc
    have hh : ∀ a, w1.hid a → w'.hid a := st.hd
    refine .inl ⟨jd.stop _ w' S' st1 rs' hsrc (Nat.le_refl _), k _ S' (w'.show_ w1.hid) (.ref D) hc (s1.trans ⟨st.n, st.φ, fun a o e nb => ?_, fun _ z => z, st.hs⟩) (rs'.bare hh) (.lst (.inl ⟨.inl hHD, fun z => ?_⟩) (by omega) (ta.bare hh))⟩
    · obtain ⟨q1, q2⟩ := st.st a o e nb
      exact ⟨q1, fun z => q2 (z.imp id (hh a))⟩
    rcases z with z | z
    · exact (rs'.hid D dh).2 z
    · obtain ⟨⟨o, q⟩, _⟩ := rs1.hid D z
      rw [hD] at q
      cases q
end
/-- list(range(n)): a new place -/
def wLrg (t : WE) : WE := fun ρ S Q => t ρ S fun d S1 => ∃ n : Int, d = .int n ∧ 0 ≤ n ∧ n ≤ 16777216 ∧ Q (.loc S1.length) (S1 ++ [.lst (rngD 0 n.toNat)])
theorem rgV_rng (n : Int) : rgV 0 n = rngV 0 n.toNat := by
  unfold rgV rngV
  rw [Int.sub_zero]
theorem qe_lrg {X : Cx} {a : Expr} {ta : WE} {p p2 pos pos2 : Pos} (hc : X.calm = true) (hg : Gl X "list") (hm : X.mg "list" = none) (hg2 : Gl X "range") (hm2 : X.mg "range" = none) (ha : PE X a (uE X.K ta)) (na : starEach [a] X.env = (false, eval a X.env) :: starEach [] X.env) :
    PE X (.Call (.Name "list" p) [.Call (.Name "range" p2) [a] [] pos2] [] pos) (uE X.K (wLrg ta)) :=
  pe_of (pe_listRg hc hg hm (prg_1 hg2 hm2 ha na)) fun σ H Q ⟨w, S, ρ, Q0, eH, rs, re, h, k⟩ => by
    subst eH
    refine ⟨w, S, ρ, _, rfl, rs, re, h, fun d S1 w1 v ⟨n, e, h0, h1, q⟩ s1 rs1 r1 => ?_⟩
    subst e
    cases r1
    refine ⟨n, rfl, RgOk.of_le (by omega) h1 (by omega) h0, fun a ha => ?_⟩
    rw [rgV_rng]
    rw [rs1.len] at q
    exact k _ _ (w1.add a _) _ q (s1.trans (add_step rs1 ha)) (rs1.add ha (by rw [rng_len, sizeLine_eq]; omega) (rng_rds _ _)) add_rd
end Pv

/-! A small tongue for what the defs say, what it means over data, and how it stands to the program's own text. -/
namespace Pv
open PySem L2 PySem.Spec PyProof.Rows

inductive Bo where
  | add | sub | mul | fdiv | mod | pow
  deriving DecidableEq
inductive Co where
  | eq | ne | lt | le | gt | ge | in_ | ni | is_ | nis
  deriving DecidableEq
inductive Bl where
  | len | abs | min | max | repr
  deriving DecidableEq
inductive Bt where
  | int | tuple | list | listN
  deriving DecidableEq
/-- a default of a keyword-only parameter -/
inductive Lf where
  | non | bl (b : Bool) | int (i : Int)
  deriving DecidableEq
def Lf.d : Lf → D
  | .non => .non | .bl b => .bl b | .int i => .int i
def Lf.v : Lf → V
  | .non => .non | .bl b => .bl b | .int i => .int i
theorem Lf.rd {K : PySem.W.Frag} {w : Wd} : ∀ l : Lf, RD K w l.d l.v
  | .non => .non
  | .bl b => .bl b
  | .int i => .int i
theorem lfs_rd {K : PySem.W.Frag} {w : Wd} : ∀ ls : List Lf, RDs K w (ls.map Lf.d) (ls.map Lf.v)
  | [] => .nil
  | l :: ls => .cons l.rd (lfs_rd ls)
/-- a def whose keyword-only parameters are left out -/
def defl (C : OL) (ls : List Lf) : OL := fun ds S Q => C (ds ++ ls.map Lf.d) S Q
mutual
inductive E where
  | var (i : Nat) | non | bl (b : Bool) | int (i : Int) | str (x : Str) | glb (i : Nat)
  | bin (o : Bo) (a b : E) | cmp (o : Co) (a b : E) | chn (o o' : Co) (a b c : E) | neg (a : E) | nt (a : E) | an (es : Es) | or (es : Es) | ife (t a b : E)
  | tup (es : Es) | lst (es : Es) | new (es : Es) | call (f : Nat) (es : Es) | blt (b : Bl) (es : Es) | bty (b : Bt) (es : Es) | isi (c : String) (a : E)
  | ix (a b : E) | sl (a : E) (lo hi : Eo) | rev (a : E) | comp (it : Iw) (j : Nat) (cond : Eo) (elt : E) | app (a b : E) | emp | up (a : E) | isi2 (c d : String) (a : E) | idx (a b : E)
  | newd | newd1 (a b : E) | pop (a : E) | ext (a b : E) | compt (it : Iw) (js : List Nat) (cond : Eo) (elt : E)
  | lrg (a : E)
  | cald (f : Nat) (es : Es) (ls : List Lf) | calk (f : Nat) (es : Es) (e : E)
inductive Es where
  | nil | cons (e : E) (es : Es)
inductive Eo where
  | no | so (e : E)
inductive Iw where
  | seq (e : E) | r1 (a : E) | r2 (a b : E) | en (a : E)
end
def Iw.isEn : Iw → Bool
  | .en _ => true | _ => false
structure Gm where
  fn : Nat → OL
  gl : Nat → D
/-- truth -/
def truD (S : Store) : D → Option Bool
  | .non => some false
  | .bl b => some b
  | .int i => some (i != 0)
  | .str z => if z.length ≤ sizeLine then some ((z.length : Int) != 0) else none
  | .emp => some false
  | d => (seqX S d).map fun xs => !xs.isEmpty
def wTru (t : WE) : WT := fun ρ S Q => t ρ S fun x S1 => ∃ b, truD S1 x = some b ∧ Q b S1
def pr (t : WE) : WE × WT := (t, wTru t)
def prB (t : WE) : WE × WT := (t, wB t)
def Bo.o2 : Bo → O2
  | .add => addD | .sub => subD | .mul => mulT | .fdiv => fdivD | .mod => modD | .pow => powD
def Co.o2 : Co → O2
  | .eq => eqD false | .ne => eqD true | .lt => ltD | .le => boolD fun i j => decide (i ≤ j) | .gt => boolD fun i j => decide (j < i) | .ge => boolD fun i j => decide (j ≤ i)
  | .in_ => inD false | .ni => inD true | .is_ => isND false | .nis => isND true
def Bl.ol : Bl → OL
  | .len => lenD | .abs => absD | .min => minD false | .max => minD true | .repr => reprC
def Bt.ol : Bt → OL
  | .int => intC | .tuple => tupleC | .list => listC true | .listN => listC false
/-- the empty dict -/
def wEmp : WE := fun _ S Q => Q .emp S
def wNo : WE := fun _ _ _ => False
mutual
def wP (Γ : Gm) : E → WE × WT
  | .var i => pr (wVar i)
  | .non => pr (wC .non)
  | .bl b => pr (wC (.bl b))
  | .int i => pr (wC (.int i))
  | .str x => pr (wC (.str x))
  | .glb i => pr (wC (Γ.gl i))
  | .bin o a b => pr (w2 o.o2 (wP Γ a).1 (wP Γ b).1)
  | .cmp o a b => prB (w2 o.o2 (wP Γ a).1 (wP Γ b).1)
  | .chn o o' a b c => prB (wChain o.o2 o'.o2 (wP Γ a).1 (wP Γ b).1 (wP Γ c).1)
  | .neg a => pr (w1 negD (wP Γ a).1)
  | .nt a => (wNot (wP Γ a).1, vNot (wP Γ a).2)
  | .an es => bAn Γ es
  | .or es => bOr Γ es
  | .ife t a b => (wIf (wP Γ t).2 (wP Γ a).1 (wP Γ b).1, fun _ _ _ => False)
  | .tup es => pr (wTup (wEs Γ es))
  | .lst es => pr (wLst (wEs Γ es))
  | .new es => pr (wNew (wEs Γ es))
  | .call f es => pr (wL (Γ.fn f) (wEs Γ es))
  | .newd => pr wNewd
  | .newd1 a b => pr (wNewd1 (wP Γ a).1 (wP Γ b).1)
  | .pop a => pr fun ρ S Q => (wP Γ a).1 ρ S fun o S1 => popD o [] S1 Q
  | .ext a b => pr fun ρ S Q => (wP Γ a).1 ρ S fun o S1 => (∃ xs, seqL S1 o = some xs) ∧ (wP Γ b).1 ρ S1 fun d S2 => extD o [d] S2 Q
  | .compt it js c e => pr (wCompT (wIt Γ it) js (wCd Γ c) (wP Γ e).1)
  | .lrg a => pr (wLrg (wP Γ a).1)
  | .cald f es ls => pr (wL (defl (Γ.fn f) ls) (wEs Γ es))
  | .calk f es e => pr fun ρ S Q => wEs Γ es ρ S fun ds S1 => (wP Γ e).1 ρ S1 fun d S2 => Γ.fn f (ds ++ [d]) S2 Q
  | .blt b es => pr (wL b.ol (wEs Γ es))
  | .bty b es => pr (wL b.ol (wEs Γ es))
  | .isi c a => pr (w1 (isiD c) (wP Γ a).1)
  | .ix a b => pr (w2 ixD (wP Γ a).1 (wP Γ b).1)
  | .sl a lo hi => pr (wSl (wP Γ a).1 (wOp Γ lo) (wOp Γ hi))
  | .rev a => pr (w1 revD (wP Γ a).1)
  | .comp it j c e => pr (wComp (wIt Γ it) j (wCd Γ c) (wP Γ e).1)
  | .app a b => pr fun ρ S Q => (wP Γ a).1 ρ S fun o S1 => (∃ xs, seqL S1 o = some xs) ∧ (wP Γ b).1 ρ S1 fun d S2 => appD o [d] S2 Q
  | .emp => pr wEmp
  | .up a => pr (w1 upD (wP Γ a).1)
  | .isi2 c d a => pr (w1 (isi2D c d) (wP Γ a).1)
  | .idx a b => pr fun ρ S Q => (wP Γ a).1 ρ S fun o S1 => (∃ xs, seqL S1 o = some xs) ∧ (wP Γ b).1 ρ S1 fun d S2 => idxM o [d] S2 Q
def wEs (Γ : Gm) : Es → WA
  | .nil => wNil
  | .cons e es => wCons (wP Γ e).1 (wEs Γ es)
def bAn (Γ : Gm) : Es → WE × WT
  | .nil => (wNo, fun _ _ _ => False)
  | .cons e .nil => wP Γ e
  | .cons e (.cons f es) => (wAnd (wP Γ e).1 (bAn Γ (.cons f es)).1, vAnd (wP Γ e).2 (bAn Γ (.cons f es)).2)
def bOr (Γ : Gm) : Es → WE × WT
  | .nil => (wNo, fun _ _ _ => False)
  | .cons e .nil => wP Γ e
  | .cons e (.cons f es) => (wOr (wP Γ e).1 (bOr Γ (.cons f es)).1, vOr (wP Γ e).2 (bOr Γ (.cons f es)).2)
def wOp (Γ : Gm) : Eo → WO
  | .no => wNone
  | .so e => wSome (wP Γ e).1
def wCd (Γ : Gm) : Eo → WT
  | .no => fun _ S Q => Q true S
  | .so e => (wP Γ e).2
def wIt (Γ : Gm) : Iw → WI
  | .seq e => iSeq (wP Γ e).1
  | .r1 a => iR1 (wCons (wP Γ a).1 wNil)
  | .en e => iEn (wP Γ e).1
  | .r2 a b => iR2 (wCons (wP Γ a).1 (wCons (wP Γ b).1 wNil))
end
end Pv

/-! What is said in the small tongue is what the text says. -/
namespace Pv
open PySem L2 PySem.Spec PyProof.Rows

structure Mc where
  N : List Str
  fs : List Str
  gs : List Str
  kw : List (List (Str × Lf))
def Mc.kwOf (m : Mc) (i : Nat) : List (Str × Lf) := m.kw.getD i []
def Bo.op : Bo → Operator
  | .add => .Add | .sub => .Sub | .mul => .Mult | .fdiv => .FloorDiv | .mod => .Mod | .pow => .Pow
def Co.op : Co → CmpOp
  | .eq => .Eq | .ne => .NotEq | .lt => .Lt | .le => .LtE | .gt => .Gt | .ge => .GtE | .in_ => .In | .ni => .NotIn | .is_ => .Is | .nis => .IsNot
def Bl.nm : Bl → Str
  | .len => "len" | .abs => "abs" | .min => "min" | .max => "max" | .repr => "repr"
def Bt.nm : Bt → Str
  | .int => "int" | .tuple => "tuple" | .list => "list" | .listN => "list"
def bnames : List Str := ["len", "abs", "min", "max", "repr", "int", "tuple", "list", "isinstance", "bool", "str", "dict", "range", "enumerate"]
def clsNames : List String := ["bool", "int", "str", "tuple", "list", "dict"]
def nmOk (x : Str) : Bool := !(x == ("__debug__" : Str)) && !(x == ("__classdict__" : Str))
def vis (sc : Scope) (x : Str) : Bool := match sc.names.lookup x with | some .local => true | some .cell => true | some .free => true | _ => false
def loc (sc : Scope) (x : Str) : Bool := match sc.names.lookup x with | some .local => true | some .cell => true | _ => false
def glo (sc : Scope) (x : Str) : Bool := decide (sc.names.lookup x = some .globalImplicit)
def plA : Expr → Bool
  | .Starred .. => false | .Set .. => false | .Slice .. => false | .Call (.Name ..) [] _ _ => false | _ => true
def flatC (N : List Str) (scope : Scope) : List Nat → List Expr → Bool
  | [], ts => ts.isEmpty
  | j :: js, ts => match ts with | .Name x _ :: ts => decide (N[j]? = some x) && loc scope x && flatC N scope js ts | _ => false
def ownOf : List Nat → List Expr → List (Str × Nat)
  | j :: js, .Name x _ :: ts => (x, j) :: ownOf js ts
  | _, _ => []
mutual
def mE (m : Mc) : E → Scope → Expr → Bool
  | .var i, sc, a => match a with | .Name x _ => decide (m.N[i]? = some x) && vis sc x && nmOk x | _ => false
  | .non, _, a => match a with | .Constant .none _ _ => true | _ => false
  | .bl b, _, a => match a with | .Constant (.bool c) _ _ => decide (c = b) | _ => false
  | .int i, _, a => match a with | .Constant (.int c) _ _ => decide (c = i) | _ => false
  | .str s, _, a => match a with | .Constant (.str c) _ _ => decide (c = s) | _ => false
  | .glb i, sc, a => match a with | .Name x _ => decide (m.gs[i]? = some x) && glo sc x && nmOk x | _ => false
  | .bin o l r, sc, a => match a with | .BinOp x op y _ => decide (op = o.op) && mE m l sc x && mE m r sc y | _ => false
  | .cmp o l r, sc, a => match a with | .Compare x [op] [y] _ => decide (op = o.op) && mE m l sc x && mE m r sc y && plA y | _ => false
  | .chn o o' l c r, sc, a => match a with | .Compare x [op, op'] [y, z] _ => decide (op = o.op) && decide (op' = o'.op) && mE m l sc x && mE m c sc y && mE m r sc z && plA z | _ => false
  | .neg l, sc, a => match a with | .UnaryOp .USub x _ => mE m l sc x | _ => false
  | .nt l, sc, a => match a with | .UnaryOp .Not x _ => mE m l sc x | _ => false
  | .an es, sc, a => match a with | .BoolOp .And vs _ => mEs m es sc vs && !vs.isEmpty | _ => false
  | .or es, sc, a => match a with | .BoolOp .Or vs _ => mEs m es sc vs && !vs.isEmpty | _ => false
  | .ife t l r, sc, a => match a with | .IfExp c x y _ => mE m t sc c && mE m l sc x && mE m r sc y | _ => false
  | .tup es, sc, a => match a with | .Tuple vs _ _ => mEs m es sc vs | _ => false
  | .lst es, sc, a => match a with | .List vs _ => mEs m es sc vs | _ => false
  | .new es, sc, a => match a with | .List vs _ => mEs m es sc vs | _ => false
  | .call f es, sc, a => match a with | .Call (.Name x _) vs [] _ => decide (m.fs[f]? = some x) && glo sc x && nmOk x && mEs m es sc vs && !vs.isEmpty && decide (m.kwOf f = []) | _ => false
  | .cald f es ls, sc, a => match a with | .Call (.Name x _) vs [] _ => decide (m.fs[f]? = some x) && glo sc x && nmOk x && mEs m es sc vs && !vs.isEmpty && decide ((m.kwOf f).map Prod.snd = ls) | _ => false
  | .calk f es e, sc, a => match a with | .Call (.Name x _) vs [⟨some n, v, _⟩] _ => decide (m.fs[f]? = some x) && glo sc x && nmOk x && mEs m es sc vs && !vs.isEmpty && decide ((m.kwOf f).map Prod.fst = [n]) && mE m e sc v | _ => false
  | .blt b es, sc, a => match a with | .Call (.Name x _) vs [] _ => decide (x = b.nm) && glo sc x && mEs m es sc vs && !vs.isEmpty | _ => false
  | .lrg e, sc, a => match a with | .Call (.Name x _) [.Call (.Name y _) [v] [] _] [] _ => decide (x = ("list" : Str)) && decide (y = ("range" : Str)) && glo sc x && glo sc y && mE m e sc v && plA v | _ => false
  | .bty b es, sc, a => match a with | .Call (.Name x _) vs [] _ => decide (x = b.nm) && glo sc x && mEs m es sc vs && !vs.isEmpty | _ => false
  | .isi c l, sc, a => match a with | .Call (.Name x _) [v, .Name y _] [] _ => decide (x = ("isinstance" : Str)) && decide (y = Str.ofString c) && decide (c ∈ clsNames) && glo sc x && glo sc y && mE m l sc v && plA v | _ => false
  | .ix l r, sc, a => match a with | .Subscript x y _ => mE m l sc x && mE m r sc y && plA y | _ => false
  | .sl l lo hi, sc, a => match a with | .Subscript x (.Slice u v none _) _ => mE m l sc x && mEo m lo sc u && mEo m hi sc v | _ => false
  | .rev l, sc, a => match a with | .Subscript x (.Slice none none (some (.UnaryOp .USub (.Constant (.int 1) _ _) _)) _) _ => mE m l sc x | _ => false
  | .comp it j c e, sc, a => match a with
    | .ListComp elt [⟨.Name x _, iter, ifs, 0⟩] scope _ => decide (m.N[j]? = some x) && blkC m.N sc scope [(x, j)] && loc scope x && mI m it sc iter && !it.isEn && plA iter && mE m e scope elt && (match ifs with | [] => (match c with | .no => true | _ => false) | [t] => mEo m c scope (some t) | _ => false)
    | _ => false
  | .compt it js c e, sc, a => match a with
    | .ListComp elt [⟨.Tuple tgs _ _, iter, ifs, 0⟩] scope _ => flatC m.N scope js tgs && blkC m.N sc scope (ownOf js tgs) && mI m it sc iter && plA iter && mE m e scope elt && (match ifs with | [] => (match c with | .no => true | _ => false) | [t] => mEo m c scope (some t) | _ => false)
    | _ => false
  | .newd, _, a => match a with | .Dict [] [] _ => true | _ => false
  | .newd1 l r, sc, a => match a with | .Dict [some x] [y] _ => mE m l sc x && mE m r sc y | _ => false
  | .pop l, sc, a => match a with | .Call (.Attribute o n ap) [] [] cp => decide (n = ("pop" : Str)) && (ap.endLine == cp.line) && mE m l sc o && plA o | _ => false
  | .ext l r, sc, a => match a with | .Call (.Attribute o n ap) [v] [] cp => decide (n = ("extend" : Str)) && (ap.endLine == cp.line) && mE m l sc o && plA o && mE m r sc v && plA v | _ => false
  | .app l r, sc, a => match a with | .Call (.Attribute o n ap) [v] [] cp => decide (n = ("append" : Str)) && (ap.endLine == cp.line) && mE m l sc o && plA o && mE m r sc v && plA v | _ => false
  | .emp, _, a => match a with | .Dict [] [] _ => true | _ => false
  | .isi2 c d l, sc, a => match a with | .Call (.Name x _) [v, .Tuple [.Name y _, .Name z _] _ _] [] _ => decide (x = ("isinstance" : Str)) && decide (y = Str.ofString c) && decide (z = Str.ofString d) && decide (c ∈ clsNames) && decide (d ∈ clsNames) && glo sc x && glo sc y && glo sc z && mE m l sc v && plA v | _ => false
  | .idx l r, sc, a => match a with | .Call (.Attribute o n ap) [v] [] cp => decide (n = ("index" : Str)) && (ap.endLine == cp.line) && mE m l sc o && plA o && mE m r sc v && plA v | _ => false
  | .up l, sc, a => match a with | .Call (.Attribute o n ap) [] [] cp => decide (n = ("upper" : Str)) && (ap.endLine == cp.line) && mE m l sc o && plA o | _ => false
def mEs (m : Mc) : Es → Scope → List Expr → Bool
  | .nil, _, as => as.isEmpty
  | .cons e es, sc, as => match as with | a :: as => plA a && mE m e sc a && mEs m es sc as | [] => false
def mEo (m : Mc) : Eo → Scope → Option Expr → Bool
  | .no, _, a => a.isNone
  | .so e, sc, a => match a with | some a => mE m e sc a | none => false
def mI (m : Mc) : Iw → Scope → Expr → Bool
  | .seq e, sc, a => mE m e sc a
  | .r1 e, sc, a => match a with | .Call (.Name x _) [v] [] _ => decide (x = ("range" : Str)) && glo sc x && mE m e sc v && plA v | _ => false
  | .en e, sc, a => match a with | .Call (.Name x _) [v] [] _ => decide (x = ("enumerate" : Str)) && glo sc x && mE m e sc v && plA v | _ => false
  | .r2 e f, sc, a => match a with | .Call (.Name x _) [u, v] [] _ => decide (x = ("range" : Str)) && glo sc x && mE m e sc u && plA u && mE m f sc v && plA v | _ => false
end

/-- how a def binds: kw its keyword-only parameters and their defaults -/
structure BindK (K : PySem.W.Frag) (fd : FuncData) (ps : List Str) (kw : List (Str × Lf)) : Prop where
  dflt : ∃ ds, Vals (kw.map fun q => q.2.v) ds ∧ Binds K fd ps ds
  key : ∀ n, kw.map Prod.fst = [n] → KBn K fd ps (ps.length - 1) [n] (fun us ws => us ++ ws) (fun vs zs => vs ++ zs)
theorem BindK.none {K : PySem.W.Frag} {fd : FuncData} {ps : List Str} (h : BindK K fd ps []) : Binds K fd ps [] := by
  obtain ⟨ds, v, b⟩ := h.dflt
  cases v
  exact b
theorem BindK.of {K : PySem.W.Frag} {fd : FuncData} {ps : List Str} (h : Binds K fd ps []) : BindK K fd ps [] := ⟨⟨[], .nil, h⟩, fun n e => (by cases e)⟩
/-! ### what the context knows -/
structure Gd (X : Cx) (k : Nat) (m : Mc) (Γ : Gm) (sc : Scope) : Prop where
  N : X.N = m.N
  calm : X.calm = true
  room : Room k X.A
  gd : X.A.guards = some []
  xe : X.xe = fun _ _ => False
  nd : m.N.Nodup
  fn : ∀ x, loc sc x = true → X.fn x = true ∨ X.env.scope.names.lookup x = some .local
  lo : ∀ x, sc.names.lookup x = some .local → X.env.scope.names.lookup x = some .local
  ce : ∀ x, sc.names.lookup x = some .cell → X.env.scope.names.lookup x = some .cell
  fr : ∀ x, sc.names.lookup x = some .free → X.env.scope.names.lookup x = some .cell ∨ X.env.scope.names.lookup x = some .free
  gl : ∀ x, sc.names.lookup x = some .globalImplicit → X.env.scope.names.lookup x = some .globalImplicit
  kind : X.env.scope.kind = .function
  fs : ∀ (i : Nat) (x : Str), m.fs[i]? = some x → ∃ f fd ps, X.mg x = some (.ref f) ∧ PySem.W.keepIn X.K (.ref f) = true ∧ BindK X.K fd ps (m.kwOf i) ∧ FnG X.prog X.w X.K X.mg X.base k f fd ps (Γ.fn i)
  gs : ∀ (i : Nat) (x : Str), m.gs[i]? = some x → ∃ u v, X.mg x = some u ∧ RelV v u ∧ ∀ w, RD X.K w (Γ.gl i) v
  bl : ∀ x ∈ bnames, X.mg x = none
variable {X : Cx} {k : Nat} {m : Mc} {Γ : Gm} {sc : Scope}
theorem Gd.vis (g : Gd X k m Γ sc) {x : Str} (h : vis sc x = true) : Vis X.env.scope x := by
  unfold Pv.vis at h
  split at h
  · exact .inl (g.lo _ (by assumption))
  · exact .inr (.inl (g.ce _ (by assumption)))
  · exact .inr ((g.fr _ (by assumption)))
  · cases h
theorem Gd.loc (g : Gd X k m Γ sc) {x : Str} (h : loc sc x = true) : Loc X.env.scope x := by
  unfold Pv.loc at h
  split at h
  · exact .inl (g.lo _ (by assumption))
  · exact .inr (g.ce _ (by assumption))
  · cases h
theorem Gd.glo (g : Gd X k m Γ sc) {x : Str} (h : glo sc x = true) : Gl X x := g.gl x (of_decide_eq_true h)
theorem nm1 {x : Str} (h : nmOk x = true) : (x == ("__debug__" : Str)) = false := by
  unfold nmOk at h
  rw [Bool.and_eq_true] at h
  simpa using h.1
theorem nm2 {x : Str} (h : nmOk x = true) : (x == ("__classdict__" : Str)) = false := by
  unfold nmOk at h
  rw [Bool.and_eq_true] at h
  simpa using h.2
/-- a plain expression -/
structure Pl (a : Expr) : Prop where
  st : ∀ es env, starEach (a :: es) env = (false, eval a env) :: starEach es env
  ab : ∀ n env, attributeBase a n env (eval a env) = eval a env
  ix : PlainIx a
  bm : ∀ op, behindInMarks op a = false
  fo : ∀ env x, foldedSetIterable a env x = pure x
theorem pl_of {a : Expr} (h : plA a = true) : Pl a := by
  cases a with
  | Starred => cases h
  | Set => cases h
  | Slice => cases h
  | Call f as kw p =>
    cases as with
    | nil =>
      have nn : ∀ x q, f ≠ .Name x q := fun x q e => by
        subst e
        cases h
      exact ⟨fun _ _ => rfl, fun _ _ => by cases f <;> first | rfl | exact absurd rfl (nn _ _), fun _ _ => rfl, fun _ => rfl, fun _ _ => rfl⟩
    | cons b bs => exact ⟨fun _ _ => rfl, fun _ _ => by cases f <;> rfl, fun _ _ => rfl, fun _ => rfl, fun _ _ => rfl⟩
  | _ => exact ⟨fun _ _ => rfl, fun _ _ => rfl, fun _ _ => rfl, fun _ => rfl, fun _ _ => rfl⟩
/-- a block of a comprehension -/
theorem relab {env : PySem.Env} {x : Str} {q : NameKind} : ∀ {names : List (Str × NameKind)}, names.lookup x = some q →
    (names.map fun (n, k) => if (k == NameKind.free && env.scope.kind == .function && env.kindOf n == some .cell) then (n, NameKind.cell) else (n, k)).lookup x = some (if (q == NameKind.free && env.scope.kind == .function && env.kindOf x == some .cell) then .cell else q)
  | [], h => by simp at h
  | (n, k) :: r, h => by
    have ih := @relab env x q r
    rw [List.map_cons]
    by_cases hx : x = n
    · subst hx
      rw [List.lookup_cons_self] at h
      cases h
      simp only
      split
      · rw [List.lookup_cons_self]
      · rw [List.lookup_cons_self]
    · have hb : (x == n) = false := beq_eq_false_iff_ne.mpr hx
      rw [List.lookup_cons, hb] at h
      simp only
      split
      · rw [List.lookup_cons, hb]
        exact ih h
      · rw [List.lookup_cons, hb]
        exact ih h
theorem Gd.blk (g : Gd X k m Γ sc) {s : Shared} {H : Hp} {scope : Scope} {cl : List (Str × Addr)} {C : Addr} {fp : List Addr} (hk : scope.kind = .function) : Gd (X.blk s H scope (compEnvC scope cl C X.env) fp) k m Γ scope where
  N := g.N
  calm := g.calm
  room := g.room
  gd := g.gd
  xe := rfl
  nd := g.nd
  kind := hk
  fs := g.fs
  gs := g.gs
  bl := g.bl
  lo := fun x h => (relab (env := X.env) h).trans (by simp)
  ce := fun x h => (relab (env := X.env) h).trans (by simp)
  gl := fun x h => (relab (env := X.env) h).trans (by simp)
  fr := fun x h => by
    have q := relab (env := X.env) h
    split at q
    · exact .inl q
    · exact .inr q
  fn := fun x h => by
    unfold Pv.loc at h
    split at h
    · exact .inr ((relab (env := X.env) (by assumption)).trans (by simp))
    · rename_i q
      refine .inl ?_
      show (scope.names.lookup x == some .cell) = true
      rw [q]
      rfl
    · cases h

/-! ### truth, by data -/
theorem tru_at {K : PySem.W.Frag} {w : Wd} {S : Store} {d : D} {v : V} {b : Bool} (rs : RS K w S) (r : RD K w d v) (h : truD S d = some b) : TruV K v w.H b := by
  cases r with
  | non => cases h; rfl
  | bl c => cases h; rfl
  | int i => cases h; rfl
  | str z =>
    unfold truD at h
    simp only at h
    split at h
    · cases h
      exact ⟨by assumption, rfl⟩
    · cases h
  | emp e n => cases h; exact .inr (.inr ⟨[], e, rfl⟩)
  | tup h1 h2 h3 =>
    cases h
    refine .inr (.inl ⟨_, h1.sq, ?_⟩)
    cases h3 <;> rfl
  | lst h1 h2 h3 =>
    cases h
    refine .inl ⟨_, h1.sq, ?_⟩
    cases h3 <;> rfl
  | @loc i hi =>
    obtain ⟨xs, hx, rfl⟩ := Option.map_eq_some_iff.mp (show (seqX S (.loc i)).map (fun xs => !xs.isEmpty) = some b from h)
    obtain ⟨a, vs, e, q, t, _⟩ := seqL_at rs (.loc hi) hx
    cases e
    refine .inl ⟨vs, q, ?_⟩
    cases t <;> rfl
section
variable {a : Expr} {ta : WE}
theorem qt_tru (h : PE X a (uE X.K ta)) (he : ∀ whole, isTrue a X.env whole = (do let v ← whole; standAt a.pos; holding [v] (truthy v))) : PT X a (uT X.K (wTru ta)) := pt_of (pt_truth h he) fun σ H Q ⟨w, S, ρ, Q0, e, rs, re, h, k⟩ => by
  subst e
  refine ⟨w, S, ρ, _, rfl, rs, re, h, fun x S1 w1 v ⟨b, hb, q⟩ s1 rs1 r1 => ⟨b, tru_at rs1 r1 hb, k b S1 w1 q s1 rs1⟩⟩
/-- what is shown of an expression: as a value, as a test -/
def Sd (X : Cx) (a : Expr) (t : WE × WT) : Prop := PE X a (uE X.K t.1) ∧ PT X a (uT X.K t.2)
theorem sd_pr (h : PE X a (uE X.K ta)) (he : ∀ whole, isTrue a X.env whole = (do let v ← whole; standAt a.pos; holding [v] (truthy v))) : Sd X a (pr ta) := ⟨h, qt_tru h he⟩
end
theorem star_any {env : PySem.Env} {pos : Pos} : ∀ {es : List Expr}, (∀ a ∈ es, plA a = true) → (backTo pos (starEach es env)).any (·.1) = false
  | [], _ => rfl
  | a :: as, h => by
    rw [(pl_of (h a List.mem_cons_self)).st]
    exact star_any fun b hb => h b (List.mem_cons_of_mem _ hb)
end Pv

namespace Pv
open PySem L2 PySem.Spec PyProof.Rows
variable {k : Nat} {m : Mc} {Γ : Gm}
theorem Bo.ok {X : Cx} (o : Bo) : OpR X (binaryOp o.op) (u2 X.K o.o2) := by
  cases o with
  | add => exact op_addD
  | sub => exact op_intD0 op_sub
  | mul => exact op_mulT
  | fdiv => exact op_intD op_fdiv
  | mod => exact op_intD op_mod
  | pow => exact op_intD op_pow
theorem Co.ok {X : Cx} (hu : X.A.units + 200 ≤ cLine) (o : Co) : OpR X (compareOp o.op) (u2 X.K o.o2) := by
  cases o with
  | eq => exact op_eqQ (by omega)
  | ne => exact op_neQ (by omega)
  | lt => exact op_ltD (by omega)
  | le => exact op_boolD op_le
  | gt => exact op_boolD op_gt
  | ge => exact op_boolD op_ge
  | in_ => exact op_inQ (by omega)
  | ni => exact op_notInQ (by omega)
  | is_ => exact op_isNQ
  | nis => exact op_notNQ
theorem Gd.units {X : Cx} {sc : Scope} (g : Gd X k m Γ sc) : X.A.units + 200 ≤ cLine := by
  have := g.room.un
  omega
theorem Bl.ok {X : Cx} {sc : Scope} (g : Gd X k m Γ sc) (b : Bl) : ∃ id, bootBuiltins b.nm = some (.builtin id) ∧ CallR X (.builtin id) (uL X.K b.ol) := by
  have hu := g.units
  cases b with
  | len => exact ⟨_, by decide +kernel, call_lenQ⟩
  | abs => exact ⟨_, by decide +kernel, call_absQ⟩
  | min => exact ⟨_, by decide +kernel, call_minQ g.calm⟩
  | max => exact ⟨_, by decide +kernel, call_maxQ g.calm⟩
  | repr => exact ⟨_, by decide +kernel, call_reprQ g.gd (by omega)⟩
theorem Bt.ok {X : Cx} (hc : X.calm = true) (b : Bt) : ∃ T, bootBuiltins b.nm = some (.type T) ∧ CallR X (.type T) (uL X.K b.ol) := by
  cases b with
  | int => exact ⟨_, by decide +kernel, call_intQ⟩
  | tuple => exact ⟨_, by decide +kernel, call_tupleQ⟩
  | list => exact ⟨_, by decide +kernel, call_listQ hc true⟩
  | listN => exact ⟨_, by decide +kernel, call_listQ hc false⟩
theorem qe_idx {X : Cx} {a e : Expr} {ta tb : WE} {apos cpos : Pos} (hu : X.A.units + 65 < cLine) (ho : PE X a (uE X.K ta)) (ha : PE X e (uE X.K tb)) (hbase : attributeBase a "index" X.env (eval a X.env) = eval a X.env)
    (hfew : ((backTo cpos (starEach [e] X.env)).all (fun x => !x.1) && (backToKw cpos (keywordEach [] X.env)).all (fun x => x.1.isSome) && decide (([e] : List Expr).length + ([] : List Keyword).length + (if ([] : List Keyword).isEmpty then 0 else 1) < 30)) = true)
    (hline : (apos.endLine == cpos.line) = true) (hst : starEach [e] X.env = (false, eval e X.env) :: starEach [] X.env) (hpl : (backTo cpos (starEach [] X.env)).any (·.1) = false) :
    PE X (.Call (.Attribute a "index" apos) [e] [] cpos) (uE X.K fun ρ S Q => ta ρ S fun o S1 => (∃ xs, seqL S1 o = some xs) ∧ tb ρ S1 fun d S2 => idxM o [d] S2 Q) :=
  pe_of (pe_bm PySem.F.plainAttrs_list PySem.F.slot_list_index PySem.F.type_list_index (mt_idxQ hu) ho (pa_cons ha pa_nil hst) hbase hfew hline hst hpl) fun σ H Q ⟨w, S, ρ, Q0, eH, rs, re, h, k⟩ => by
    subst eH
    refine ⟨w, S, ρ, _, rfl, rs, re, h, fun o S1 w1 v ⟨⟨xs, hx⟩, h1⟩ s1 rs1 r1 => ⟨?_, ?_⟩⟩
    · obtain ⟨q, vs, rfl, hq, _, _⟩ := seqL_at rs1 r1 hx
      exact .inl ⟨rfl, _, hq⟩
    · exact ⟨w1, S1, ρ, _, rfl, rs1, re.step s1, h1, fun d S2 w2 u q s2 rs2 r2 => ⟨w2, S2, o, [d], Q0, rfl, rs2, r1.step s2, .cons r2 .nil, q, k.step (s1.trans s2)⟩⟩
theorem Bl.mem (b : Bl) : b.nm ∈ bnames := by cases b <;> decide +kernel
theorem Bt.mem (b : Bt) : b.nm ∈ bnames := by cases b <;> decide +kernel
theorem Bl.ne (b : Bl) : b.nm ≠ "__name__" ∧ (b.nm == ("__debug__" : Str)) = false := by cases b <;> decide +kernel
theorem Bt.ne (b : Bt) : b.nm ≠ "__name__" ∧ (b.nm == ("__debug__" : Str)) = false := by cases b <;> decide +kernel
theorem and2 {a b : Bool} (h : (a && b) = true) : a = true ∧ b = true := by simpa using h
theorem bne_nil {α : Type} {l : List α} (h : (!l.isEmpty) = true) : ∃ a as, l = a :: as := by
  cases l with
  | nil => cases h
  | cons a as => exact ⟨a, as, rfl⟩
/-- isinstance of one of two classes -/
theorem qe_isi2 {X : Cx} {c d : String} {a : Expr} {ta : WE} {p p2 p3 p4 pos : Pos} {i4 : Nat} (hc : c ∈ clsNames) (hd : d ∈ clsNames) (b1 : bootBuiltins (Str.ofString c) = some (.type c)) (b2 : Str.ofString c ≠ "__name__") (b3 : (Str.ofString c == ("__debug__" : Str)) = false)
    (c1 : bootBuiltins (Str.ofString d) = some (.type d)) (c2 : Str.ofString d ≠ "__name__") (c3 : (Str.ofString d == ("__debug__" : Str)) = false) (ha : PE X a (uE X.K ta)) (pl : plA a = true)
    (g1 : Gl X "isinstance") (m1 : X.mg "isinstance" = none) (g2 : Gl X (Str.ofString c)) (m2 : X.mg (Str.ofString c) = none) (g3 : Gl X (Str.ofString d)) (m3 : X.mg (Str.ofString d) = none) :
    PE X (.Call (.Name "isinstance" p) [a, .Tuple [.Name (Str.ofString c) p2, .Name (Str.ofString d) p3] i4 p4] [] pos) (uE X.K (w1 (isi2D c d) ta)) := by
  have n1 : PE X (.Name (Str.ofString c) p2) (tC (.ty c)) := pe_bltn g2 m2 b1 rfl b2 b3
  have n2 : PE X (.Name (Str.ofString d) p3) (tC (.ty d)) := pe_bltn g3 m3 c1 rfl c2 c3
  have nt : PE X (.Tuple [.Name (Str.ofString c) p2, .Name (Str.ofString d) p3] i4 p4) _ := pe_tup (pa_cons n1 (pa_cons n2 pa_nil (by rfl)) (by rfl))
  refine pe_of (pe_callB (call_isi2 hc hd) g1 m1 boot_isinstance (pa_cons ha (pa_cons nt pa_nil (by rfl)) ((pl_of pl).st _ _)) (by decide) (by decide) ((pl_of pl).st _ _) (by rfl)) fun σ H Q ⟨w, S, ρ, Q0, e, rs, re, h, k⟩ => ?_
  subst e
  exact ⟨w, S, ρ, _, rfl, rs, re, h, fun x S1 w1 v h1 s1 rs1 r1 => ⟨show 2 ≤ sizeLine by decide, fun tp htp => ⟨v, tp, rfl, upd_same, w1.put tp _, S1, x, Q0, rfl, rs1.put htp, r1.step (put_step rs1 htp), h1, k.step (s1.trans (put_step rs1 htp))⟩⟩⟩
/-- isinstance(x, c) -/
theorem qe_isi {X : Cx} {c : String} {a : Expr} {ta : WE} {p p2 pos : Pos} (hc : c ∈ clsNames) (hv : bootBuiltins (Str.ofString c) = some (.type c)) (hn : Str.ofString c ≠ "__name__") (hd : (Str.ofString c == ("__debug__" : Str)) = false) (ha : PE X a (uE X.K ta)) (pl : plA a = true)
    (g1 : Gl X "isinstance") (m1 : X.mg "isinstance" = none) (g2 : Gl X (Str.ofString c)) (m2 : X.mg (Str.ofString c) = none) : PE X (.Call (.Name "isinstance" p) [a, .Name (Str.ofString c) p2] [] pos) (uE X.K (w1 (isiD c) ta)) := by
  have hb : PE X (.Name (Str.ofString c) p2) (tC (.ty c)) := pe_bltn g2 m2 hv rfl hn hd
  refine pe_of (pe_callB (call_isiQ hc) g1 m1 boot_isinstance (pa_cons ha (pa_cons hb pa_nil (by rfl)) ((pl_of pl).st _ _)) (by decide) (by decide) ((pl_of pl).st _ _) (by rfl)) fun σ H Q ⟨w, S, ρ, Q0, e, rs, re, h, k⟩ => ?_
  subst e
  exact ⟨w, S, ρ, _, rfl, rs, re, h, fun x S1 w1 v h1 s1 rs1 r1 => ⟨v, rfl, w1, S1, x, Q0, rfl, rs1, r1, h1, k.step s1⟩⟩
theorem cls_boot {c : String} (h : c ∈ clsNames) : bootBuiltins (Str.ofString c) = some (.type c) ∧ Str.ofString c ≠ "__name__" ∧ (Str.ofString c == ("__debug__" : Str)) = false ∧ Str.ofString c ∈ bnames := by
  have q : (clsNames.all fun c => decide (bootBuiltins (Str.ofString c) = some (.type c)) && decide (Str.ofString c ≠ "__name__") && !(Str.ofString c == ("__debug__" : Str)) && decide (Str.ofString c ∈ bnames)) = true := by decide +kernel
  rw [List.all_eq_true] at q
  have q := q c h
  obtain ⟨q, q4⟩ := and2 q
  obtain ⟨q, q3⟩ := and2 q
  obtain ⟨q1, q2⟩ := and2 q
  exact ⟨of_decide_eq_true q1, of_decide_eq_true q2, by simpa using q3, of_decide_eq_true q4⟩
/-- a comprehension -/
theorem qe_comp {X : Cx} {sc scope : Scope} (g : Gd X k m Γ sc) {it : WI} {j : Nat} {x : Str} {tt : WT} {te : WE} {elt iter : Expr} {ifs : List Expr} {px pos : Pos} (hj : m.N[j]? = some x) (hb : blkC m.N sc scope [(x, j)] = true) (hl : loc scope x = true)
    (hi : PI X (.Name x px) iter (uI X.K it)) (ht : ∀ X', Gd X' k m Γ scope → X'.K = X.K → PTs X' ifs (uT X'.K tt)) (he : ∀ X', Gd X' k m Γ scope → X'.K = X.K → PE X' elt (uE X'.K te)) (hs : ∀ y, foldedSetIterable iter X.env y = pure y) :
    PE X (.ListComp elt [⟨.Name x px, iter, ifs, 0⟩] scope pos) (uE X.K (wComp it j tt te)) := by
  have ok : BlkOk m.N sc scope [(x, j)] := blkOk_by hb
  have ok' : BlkOk X.N X.env.scope scope [(x, j)] := by
    rw [g.N]
    refine ⟨ok.kind, ok.uniq, ok.ix, fun y hy e => ?_, ok.own⟩
    rcases ok.free y hy e with q | q
    · exact .inl (g.ce _ q)
    · exact g.fr _ q
  refine pe_of (pe_lc (g := gName j) (tt := uT X.K tt) (te := uE X.K te) g.calm (by rw [g.N]; exact g.nd) hi ok' (fun s H C cl fp => ?_) (fun s H C cl fp => ?_) (fun s H C cl fp => ?_) hs) fun σ H Q ⟨w, S, ρ, Q0, e, rs, re, h, k⟩ => ?_
  · have gb := g.blk (s := s) (H := H) (cl := cl) (C := C) (fp := fp) ok.kind
    exact pg_name (by rw [gb.N]; exact g.nd) (by rw [gb.N]; exact hj) (gb.loc hl) (gb.fn x hl)
  · exact ht _ (g.blk ok.kind) rfl
  · exact he _ (g.blk ok.kind) rfl
  · subst e
    exact comp_u rs re h k
/-- name = comprehension -/
theorem qs_setc {X : Cx} {sc scope : Scope} (g : Gd X k m Γ sc) {it : WI} {i j : Nat} {x y : Str} {tt : WT} {te : WE} {elt iter : Expr} {ifs : List Expr} {px py pos spos : Pos} (hj : m.N[j]? = some x) (hb : blkC m.N sc scope [(x, j)] = true) (hl : loc scope x = true)
    (hi : PI X (.Name x px) iter (uI X.K it)) (ht : ∀ X', Gd X' k m Γ scope → X'.K = X.K → PTs X' ifs (uT X'.K tt)) (he : ∀ X', Gd X' k m Γ scope → X'.K = X.K → PE X' elt (uE X'.K te)) (hs : ∀ y, foldedSetIterable iter X.env y = pure y)
    (hy : m.N[i]? = some y) (hyl : X.env.scope.names.lookup y = some .local) (hsw : swapsWith (.ListComp elt [⟨.Name x px, iter, ifs, 0⟩] scope pos) (some (.Name y py)) spos.line X.env = pure true) :
    PS X (.Assign [.Name y py] (.ListComp elt [⟨.Name x px, iter, ifs, 0⟩] scope pos) spos) (uS X.K (wAsg (wComp it j tt te) (gN i))) := by
  have ok : BlkOk m.N sc scope [(x, j)] := blkOk_by hb
  have ok' : BlkOk X.N X.env.scope scope [(x, j)] := by
    rw [g.N]
    refine ⟨ok.kind, ok.uniq, ok.ix, fun y hy e => ?_, ok.own⟩
    rcases ok.free y hy e with q | q
    · exact .inl (g.ce _ q)
    · exact g.fr _ q
  refine ps_of (ps_setLc (i := i) (g := gName j) (tt := uT X.K tt) (te := uE X.K te) g.calm (by rw [g.N]; exact g.nd) (by rw [g.N]; exact hy) hyl hsw hi ok' (fun s H C cl fp => ?_) (fun s H C cl fp => ?_) (fun s H C cl fp => ?_) hs) fun N σ H ⟨w, S, ρ, E0, e, rs, re, h, k1, _, _, _⟩ => ?_
  · have gb := g.blk (s := s) (H := H) (cl := cl) (C := C) (fp := fp) ok.kind
    exact pg_name (by rw [gb.N]; exact g.nd) (by rw [gb.N]; exact hj) (gb.loc hl) (gb.fn x hl)
  · exact ht _ (g.blk ok.kind) rfl
  · exact he _ (g.blk ok.kind) rfl
  · subst e
    exact comp_u (Q0 := fun d S1 => E0.nx (ρ.set i (some d)) S1) (Q := fun v H1 => N.nx (σ.set i (some v)) H1) rs re h fun d S1 w1 v q s1 rs1 r1 => k1 _ S1 w1 _ q s1 rs1 ((re.step s1).set r1 i)
theorem pgs_of' {X : Cx} {es : List Expr} {t t' : TGs} (h : PGs X es t) (i : ∀ v σ H Q, t' v σ H Q → t v σ H Q) : PGs X es t' := ⟨fun pins s σ H vs us Q I r q => h.run pins s σ H vs us Q I r (i _ _ _ _ q)⟩
theorem pgs_flat {X : Cx} {scope : Scope} {N : List Str} (hN : X.N = N) (nd : N.Nodup) (hl : ∀ x, loc scope x = true → Loc X.env.scope x) (hf : ∀ x, loc scope x = true → X.fn x = true ∨ X.env.scope.names.lookup x = some .local) :
    ∀ (js : List Nat) (ts : List Expr), flatC N scope js ts = true → PGs X ts (gsFlat js) ∧ ∀ env, (assignEach ts env).length = js.length ∧ (assignEach ts env).findIdx? (·.1) = none
  | [], ts, h => by
    have e : ts = [] := by simpa [flatC] using h
    subst e
    refine ⟨pgs_of' pgs_nil fun v σ H Q ⟨h1, h2⟩ => ?_, fun env => ⟨rfl, rfl⟩⟩
    cases v with
    | nil => exact ⟨rfl, h2⟩
    | cons _ _ => cases h1
  | j :: js, ts, h => by
    unfold flatC at h
    split at h
    · rename_i x px ts'
      obtain ⟨h, h3⟩ := and2 h
      obtain ⟨h1, h2⟩ := and2 h
      obtain ⟨q1, q2⟩ := pgs_flat hN nd hl hf js ts' h3
      refine ⟨pgs_of' (pgs_cons (pg_name (i := j) (by rw [hN]; exact nd) (by rw [hN]; exact of_decide_eq_true h1) (hl x h2) (hf x h2)) q1 rfl) fun v σ H Q ⟨e1, e2⟩ => ?_, fun env => ?_⟩
      · cases v with
        | nil => cases e1
        | cons v r => exact ⟨v, r, rfl, by simpa using e1, e2⟩
      · obtain ⟨e1, e2⟩ := q2 env
        show ((false, _) :: assignEach ts' env).length = _ ∧ ((false, _) :: assignEach ts' env).findIdx? (·.1) = none
        refine ⟨by rw [List.length_cons, e1]; rfl, ?_⟩
        rw [List.findIdx?_cons]
        simp [e2]
    · cases h
theorem ownOf_snd {N : List Str} {scope : Scope} : ∀ (js : List Nat) (ts : List Expr), flatC N scope js ts = true → (ownOf js ts).map (·.2) = js
  | [], ts, _ => by unfold ownOf; rfl
  | j :: js, ts, h => by
    unfold flatC at h
    split at h
    · obtain ⟨h, h3⟩ := and2 h
      unfold ownOf
      rw [List.map_cons, ownOf_snd js _ h3]
    · cases h
/-- a comprehension over a tuple of names -/
theorem qe_compT {X : Cx} {sc scope : Scope} (g : Gd X k m Γ sc) {it : WI} {js : List Nat} {tgs : List Expr} {k0 : Nat} {tt : WT} {te : WE} {elt iter : Expr} {ifs : List Expr} {px pos : Pos} (hfl : flatC m.N scope js tgs = true) (hb : blkC m.N sc scope (ownOf js tgs) = true)
    (hi : PI X (.Tuple tgs k0 px) iter (uI X.K it)) (ht : ∀ X', Gd X' k m Γ scope → X'.K = X.K → PTs X' ifs (uT X'.K tt)) (he : ∀ X', Gd X' k m Γ scope → X'.K = X.K → PE X' elt (uE X'.K te)) (hs : ∀ y, foldedSetIterable iter X.env y = pure y) :
    PE X (.ListComp elt [⟨.Tuple tgs k0 px, iter, ifs, 0⟩] scope pos) (uE X.K (wCompT it js tt te)) := by
  have ok : BlkOk m.N sc scope (ownOf js tgs) := blkOk_by hb
  have ok' : BlkOk X.N X.env.scope scope (ownOf js tgs) := by
    rw [g.N]
    refine ⟨ok.kind, ok.uniq, ok.ix, fun y hy e => ?_, ok.own⟩
    rcases ok.free y hy e with q | q
    · exact .inl (g.ce _ q)
    · exact g.fr _ q
  refine pe_of (pe_lc (g := gFlat X.K js) (tt := uT X.K tt) (te := uE X.K te) g.calm (by rw [g.N]; exact g.nd) hi ok' (fun s H C cl fp => ?_) (fun s H C cl fp => ?_) (fun s H C cl fp => ?_) hs) fun σ H Q ⟨w, S, ρ, Q0, e, rs, re, h, k⟩ => ?_
  · have gb := g.blk (s := s) (H := H) (cl := cl) (C := C) (fp := fp) ok.kind
    obtain ⟨q1, q2⟩ := pgs_flat gb.N gb.nd (fun x hx => gb.loc hx) gb.fn js tgs hfl
    refine ⟨fun pins s σ H v u Q I r hw => ?_⟩
    obtain ⟨a, vs, e1, e2, e3, q⟩ := hw
    exact (pg_tup gb.calm q1 (q2 _).1 (q2 _).2).run pins s σ H v u Q I r ⟨a, vs, e1, e2, e3, e3, q⟩
  · exact ht _ (g.blk ok.kind) rfl
  · exact he _ (g.blk ok.kind) rfl
  · subst e
    rw [ownOf_snd js tgs hfl]
    exact comp_uT rs re h k
/-- name = comprehension over a tuple of names -/
theorem qs_setcT {X : Cx} {sc scope : Scope} (g : Gd X k m Γ sc) {it : WI} {js : List Nat} {tgs : List Expr} {k0 i : Nat} {y : Str} {tt : WT} {te : WE} {elt iter : Expr} {ifs : List Expr} {px py pos spos : Pos} (hfl : flatC m.N scope js tgs = true) (hb : blkC m.N sc scope (ownOf js tgs) = true)
    (hi : PI X (.Tuple tgs k0 px) iter (uI X.K it)) (ht : ∀ X', Gd X' k m Γ scope → X'.K = X.K → PTs X' ifs (uT X'.K tt)) (he : ∀ X', Gd X' k m Γ scope → X'.K = X.K → PE X' elt (uE X'.K te)) (hs : ∀ y, foldedSetIterable iter X.env y = pure y)
    (hy : m.N[i]? = some y) (hyl : X.env.scope.names.lookup y = some .local) (hsw : swapsWith (.ListComp elt [⟨.Tuple tgs k0 px, iter, ifs, 0⟩] scope pos) (some (.Name y py)) spos.line X.env = pure true) :
    PS X (.Assign [.Name y py] (.ListComp elt [⟨.Tuple tgs k0 px, iter, ifs, 0⟩] scope pos) spos) (uS X.K (wAsg (wCompT it js tt te) (gN i))) := by
  have ok : BlkOk m.N sc scope (ownOf js tgs) := blkOk_by hb
  have ok' : BlkOk X.N X.env.scope scope (ownOf js tgs) := by
    rw [g.N]
    refine ⟨ok.kind, ok.uniq, ok.ix, fun y hy e => ?_, ok.own⟩
    rcases ok.free y hy e with q | q
    · exact .inl (g.ce _ q)
    · exact g.fr _ q
  refine ps_of (ps_setLc (i := i) (g := gFlat X.K js) (tt := uT X.K tt) (te := uE X.K te) g.calm (by rw [g.N]; exact g.nd) (by rw [g.N]; exact hy) hyl hsw hi ok' (fun s H C cl fp => ?_) (fun s H C cl fp => ?_) (fun s H C cl fp => ?_) hs) fun N σ H ⟨w, S, ρ, E0, e, rs, re, h, k1, _, _, _⟩ => ?_
  · have gb := g.blk (s := s) (H := H) (cl := cl) (C := C) (fp := fp) ok.kind
    obtain ⟨q1, q2⟩ := pgs_flat gb.N gb.nd (fun x hx => gb.loc hx) gb.fn js tgs hfl
    refine ⟨fun pins s σ H v u Q I r hw => ?_⟩
    obtain ⟨a, vs, e1, e2, e3, q⟩ := hw
    exact (pg_tup gb.calm q1 (q2 _).1 (q2 _).2).run pins s σ H v u Q I r ⟨a, vs, e1, e2, e3, e3, q⟩
  · exact ht _ (g.blk ok.kind) rfl
  · exact he _ (g.blk ok.kind) rfl
  · subst e
    rw [ownOf_snd js tgs hfl]
    exact comp_uT (Q0 := fun d S1 => E0.nx (ρ.set i (some d)) S1) (Q := fun v H1 => N.nx (σ.set i (some v)) H1) rs re h fun d S1 w1 v q s1 rs1 r1 => k1 _ S1 w1 _ q s1 rs1 ((re.step s1).set r1 i)
theorem qe_emp {X : Cx} {pos : Pos} : PE X (.Dict [] [] pos) (uE X.K wEmp) := pe_of pe_dnewK fun σ H Q ⟨w, S, ρ, Q0, e, rs, re, h, kt⟩ => by
  subst e
  intro d hd
  exact kt .emp S (w.put d (.dK [])) _ h (put_step rs hd) (rs.put hd) (.emp upd_same (rs.free hd))
theorem qe_up {X : Cx} {o : Expr} {to : WE} {apos pos : Pos} (ho : PE X o (uE X.K to)) (hb : attributeBase o "upper" X.env (eval o X.env) = eval o X.env) (hl : (apos.endLine == pos.line) = true) : PE X (.Call (.Attribute o "upper" apos) [] [] pos) (uE X.K (w1 upD to)) :=
  pe_of (pe_upper ho hb hl) fun σ H Q ⟨w, S, ρ, Q0, e, rs, re, h, kt⟩ => by
    subst e
    refine ⟨w, S, ρ, _, rfl, rs, re, h, fun d S1 w1 v ⟨z, e1, hz, q⟩ s1 rs1 r1 => ?_⟩
    subst e1
    cases r1
    exact ⟨⟨z, rfl⟩, z, rfl, rfl, hz, kt _ S1 w1 _ q s1 rs1 (.str _)⟩
theorem pts_yes {X : Cx} : PTs X [] (uT X.K fun _ S Q => Q true S) := ⟨fun pins s σ H Q I ⟨w, S, ρ, Q0, e, rs, re, h, k⟩ => by
  subst e
  exact pts_nil.run pins s σ w.H Q I (k true S w h (Step.refl _) rs)⟩
/-- what is shown of a list of expressions -/
structure Sl (X : Cx) (Γ : Gm) (es : Es) (as : List Expr) : Prop where
  pl : ∀ a ∈ as, plA a = true
  pa : PA X as (uA X.K (wEs Γ es))
  an : as ≠ [] → ∀ pos, PE X (.BoolOp .And as pos) (uE X.K (bAn Γ es).1) ∧ PW X (.BoolOp .And as pos) (uT X.K (bAn Γ es).2)
  or : as ≠ [] → ∀ pos, PE X (.BoolOp .Or as pos) (uE X.K (bOr Γ es).1) ∧ PW X (.BoolOp .Or as pos) (uT X.K (bOr Γ es).2)
mutual
theorem sE (m : Mc) (Γ : Gm) : ∀ (e : E) {X : Cx} {sc : Scope} (g : Gd X k m Γ sc) (a : Expr), mE m e sc a = true → Sd X a (wP Γ e)
  | .var i, X, sc, g, a, h => by
    cases a with
    | Name x p =>
      simp only [mE] at h
      obtain ⟨h, h3⟩ := and2 h
      obtain ⟨h1, h2⟩ := and2 h
      exact sd_pr (qe_var (pe_var (by rw [g.N]; exact of_decide_eq_true h1) (g.vis h2) (nm1 h3) (nm2 h3))) fun _ => rfl
    | _ => cases h
  | .non, X, sc, g, a, h => by
    cases a with
    | Constant c j p =>
      cases c with
      | none => exact sd_pr (qe_c pe_non fun _ => .non) fun _ => rfl
      | _ => cases h
    | _ => cases h
  | .bl b, X, sc, g, a, h => by
    cases a with
    | Constant c j p =>
      cases c with
      | bool c =>
        simp only [mE] at h
        cases of_decide_eq_true h
        exact sd_pr (qe_c pe_bl fun _ => .bl b) fun _ => rfl
      | _ => cases h
    | _ => cases h
  | .int b, X, sc, g, a, h => by
    cases a with
    | Constant c j p =>
      cases c with
      | int c =>
        simp only [mE] at h
        cases of_decide_eq_true h
        exact sd_pr (qe_c pe_int fun _ => .int b) fun _ => rfl
      | _ => cases h
    | _ => cases h
  | .str b, X, sc, g, a, h => by
    cases a with
    | Constant c j p =>
      cases c with
      | str c =>
        simp only [mE] at h
        cases of_decide_eq_true h
        exact sd_pr (qe_c pe_str fun _ => .str b) fun _ => rfl
      | _ => cases h
    | _ => cases h
  | .glb i, X, sc, g, a, h => by
    cases a with
    | Name x p =>
      simp only [mE] at h
      obtain ⟨h, h3⟩ := and2 h
      obtain ⟨h1, h2⟩ := and2 h
      obtain ⟨u, v, hm, r, rd⟩ := g.gs i x (of_decide_eq_true h1)
      exact sd_pr (qe_c (pe_glob (g.glo h2) hm r (nm1 h3)) rd) fun _ => rfl
    | _ => cases h
  | .bin o l r, X, sc, g, a, h => by
    cases a with
    | BinOp x op y p =>
      simp only [mE] at h
      obtain ⟨h, h3⟩ := and2 h
      obtain ⟨h1, h2⟩ := and2 h
      cases of_decide_eq_true h1
      exact sd_pr (qe_op o.ok (sE m Γ l g x h2).1 (sE m Γ r g y h3).1) fun _ => rfl
    | _ => cases h
  | .cmp o l r, X, sc, g, a, h => by
    cases a with
    | Compare x ops ys p =>
      match ops, ys, h with
      | [op], [y], h =>
        simp only [mE] at h
        obtain ⟨h, h4⟩ := and2 h
        obtain ⟨h, h3⟩ := and2 h
        obtain ⟨h1, h2⟩ := and2 h
        cases of_decide_eq_true h1
        exact ⟨qe_cmp (o.ok g.units) (sE m Γ l g x h2).1 (sE m Γ r g y h3).1 ((pl_of h4).bm _), qt_cmp (o.ok g.units) (sE m Γ l g x h2).1 (sE m Γ r g y h3).1 ((pl_of h4).bm _)⟩
      | [], _, h => cases h
      | [_], [], h => cases h
      | [_], _ :: _ :: _, h => cases h
      | _ :: _ :: _, _, h => simp [mE] at h
    | _ => cases h
  | .chn o o' l c r, X, sc, g, a, h => by
    cases a with
    | Compare x ops ys p =>
      match ops, ys, h with
      | [op, op'], [y, z], h =>
        simp only [mE] at h
        obtain ⟨h, h6⟩ := and2 h
        obtain ⟨h, h5⟩ := and2 h
        obtain ⟨h, h4⟩ := and2 h
        obtain ⟨h, h3⟩ := and2 h
        obtain ⟨h1, h2⟩ := and2 h
        cases of_decide_eq_true h1
        cases of_decide_eq_true h2
        have hm : lastMarks [o.op, o'.op] [y, z] = false := (pl_of h6).bm _
        exact ⟨qe_chain (o.ok g.units) (o'.ok g.units) (sE m Γ l g x h3).1 (sE m Γ c g y h4).1 (sE m Γ r g z h5).1 hm, qt_chain (o.ok g.units) (o'.ok g.units) (sE m Γ l g x h3).1 (sE m Γ c g y h4).1 (sE m Γ r g z h5).1 hm⟩
      | [], _, h => cases h
      | [_], _, h => simp [mE] at h
      | [_, _], [], h => cases h
      | [_, _], [_], h => cases h
      | [_, _], _ :: _ :: _ :: _, h => cases h
      | _ :: _ :: _ :: _, _, h => simp [mE] at h
    | _ => cases h
  | .neg l, X, sc, g, a, h => by
    cases a with
    | UnaryOp op x p =>
      cases op with
      | USub => exact sd_pr (qe_un un_negD (sE m Γ l g x h).1) fun _ => rfl
      | _ => cases h
    | _ => cases h
  | .nt l, X, sc, g, a, h => by
    cases a with
    | UnaryOp op x p =>
      cases op with
      | Not => exact ⟨qe_not (sE m Γ l g x h).1, qt_not (sE m Γ l g x h).2⟩
      | _ => cases h
    | _ => cases h
  | .an es, X, sc, g, a, h => by
    cases a with
    | BoolOp op vs p =>
      cases op with
      | And =>
        simp only [mE] at h
        obtain ⟨h1, h2⟩ := and2 h
        obtain ⟨y, ys, rfl⟩ := bne_nil h2
        have q := (sEs m Γ es g _ h1).an (by simp) p
        exact ⟨q.1, q.2.pt⟩
      | Or => cases h
    | _ => cases h
  | .or es, X, sc, g, a, h => by
    cases a with
    | BoolOp op vs p =>
      cases op with
      | Or =>
        simp only [mE] at h
        obtain ⟨h1, h2⟩ := and2 h
        obtain ⟨y, ys, rfl⟩ := bne_nil h2
        have q := (sEs m Γ es g _ h1).or (by simp) p
        exact ⟨q.1, q.2.pt⟩
      | And => cases h
    | _ => cases h
  | .ife t l r, X, sc, g, a, h => by
    cases a with
    | IfExp c x y p =>
      simp only [mE] at h
      obtain ⟨h, h3⟩ := and2 h
      obtain ⟨h1, h2⟩ := and2 h
      exact ⟨qe_if (sE m Γ t g c h1).2 (sE m Γ l g x h2).1 (sE m Γ r g y h3).1, ⟨fun _ _ _ _ _ _ ⟨_, _, _, _, _, _, _, z, _⟩ => z.elim⟩⟩
    | _ => cases h
  | .tup es, X, sc, g, a, h => by
    cases a with
    | Tuple vs j p => exact sd_pr (qe_tup (sEs m Γ es g vs h).pa) fun _ => rfl
    | _ => cases h
  | .lst es, X, sc, g, a, h => by
    cases a with
    | List vs p => exact sd_pr (qe_lst (sEs m Γ es g vs h).pa) fun _ => rfl
    | _ => cases h
  | .new es, X, sc, g, a, h => by
    cases a with
    | List vs p => exact sd_pr (qe_new (sEs m Γ es g vs h).pa) fun _ => rfl
    | _ => cases h
  | .call f es, X, sc, g, a, h => by
    cases a with
    | Call fx vs kw p =>
      cases fx with
      | Name x px =>
        cases kw with
        | nil =>
          simp only [mE] at h
          obtain ⟨h, h6⟩ := and2 h
          obtain ⟨h, h5⟩ := and2 h
          obtain ⟨h, h4⟩ := and2 h
          obtain ⟨h, h3⟩ := and2 h
          obtain ⟨h1, h2⟩ := and2 h
          obtain ⟨y, ys, rfl⟩ := bne_nil h5
          obtain ⟨fa, fd, ps, hm, hk, hb, F⟩ := g.fs f x (of_decide_eq_true h1)
          have q := sEs m Γ es g _ h4
          rw [show m.kwOf f = [] from of_decide_eq_true h6] at hb
          exact sd_pr (qe_call F g.gd g.room (g.glo h2) hm hk hb.none q.pa (nm1 h3) ((pl_of (q.pl y List.mem_cons_self)).st _ _) (star_any fun b hb => q.pl b (List.mem_cons_of_mem _ hb))) fun _ => rfl
        | cons _ _ => cases h
      | _ => cases h
    | _ => cases h
  | .cald f es ls, X, sc, g, a, h => by
    cases a with
    | Call fx vs kw p =>
      cases fx with
      | Name x px =>
        cases kw with
        | nil =>
          simp only [mE] at h
          obtain ⟨h, h6⟩ := and2 h
          obtain ⟨h, h5⟩ := and2 h
          obtain ⟨h, h4⟩ := and2 h
          obtain ⟨h, h3⟩ := and2 h
          obtain ⟨h1, h2⟩ := and2 h
          obtain ⟨y, ys, rfl⟩ := bne_nil h5
          obtain ⟨fa, fd, ps, hm, hk, hb, F⟩ := g.fs f x (of_decide_eq_true h1)
          have q := sEs m Γ es g _ h4
          obtain ⟨ds, hv, hb⟩ := hb.dflt
          have e6 : (m.kwOf f).map Prod.snd = ls := of_decide_eq_true h6
          have e7 : (m.kwOf f).map (fun q => q.2.v) = ls.map Lf.v := by
            rw [← e6, List.map_map]
            rfl
          rw [e7] at hv
          exact sd_pr (qe_callD F g.gd g.room (g.glo h2) hm hk hb hv (fun w => lfs_rd ls) q.pa (nm1 h3) ((pl_of (q.pl y List.mem_cons_self)).st _ _) (star_any fun b hb => q.pl b (List.mem_cons_of_mem _ hb))) fun _ => rfl
        | cons _ _ => cases h
      | _ => cases h
    | _ => cases h
  | .calk f es ek, X, sc, g, a, h => by
    cases a with
    | Call fx vs kw p =>
      cases fx with
      | Name x px =>
        simp only [mE] at h
        split at h
        · rename_i v0 vs0 n v kp p0 e0
          cases e0
          obtain ⟨h, h7⟩ := and2 h
          obtain ⟨h, h6⟩ := and2 h
          obtain ⟨h, h5⟩ := and2 h
          obtain ⟨h, h4⟩ := and2 h
          obtain ⟨h, h3⟩ := and2 h
          obtain ⟨h1, h2⟩ := and2 h
          obtain ⟨y, ys, rfl⟩ := bne_nil h5
          obtain ⟨fa, fd, ps, hm, hk, hb, F⟩ := g.fs f _ (of_decide_eq_true h1)
          have q := sEs m Γ es g _ h4
          exact sd_pr (qe_callK F g.gd g.room (g.glo h2) hm hk (hb.key _ (of_decide_eq_true h6)) q.pa (sE m Γ ek g v h7).1 (nm1 h3) ((pl_of (q.pl y List.mem_cons_self)).st _ _) (star_any fun b hb => q.pl b hb)) fun _ => rfl
        · cases h
      | _ => simp only [mE] at h; cases h
    | _ => cases h
  | .blt b es, X, sc, g, a, h => by
    cases a with
    | Call fx vs kw p =>
      cases fx with
      | Name x px =>
        cases kw with
        | nil =>
          simp only [mE] at h
          obtain ⟨h, h4⟩ := and2 h
          obtain ⟨h, h3⟩ := and2 h
          obtain ⟨h1, h2⟩ := and2 h
          obtain ⟨y, ys, rfl⟩ := bne_nil h4
          have e := of_decide_eq_true h1
          subst e
          obtain ⟨id, hv, hc⟩ := b.ok g
          have q := sEs m Γ es g _ h3
          exact sd_pr (qe_blt hc (g.glo h2) (g.bl _ b.mem) hv q.pa b.ne.1 b.ne.2 ((pl_of (q.pl y List.mem_cons_self)).st _ _) (star_any fun b hb => q.pl b (List.mem_cons_of_mem _ hb))) fun _ => rfl
        | cons _ _ => cases h
      | _ => cases h
    | _ => cases h
  | .bty b es, X, sc, g, a, h => by
    cases a with
    | Call fx vs kw p =>
      cases fx with
      | Name x px =>
        cases kw with
        | nil =>
          simp only [mE] at h
          obtain ⟨h, h4⟩ := and2 h
          obtain ⟨h, h3⟩ := and2 h
          obtain ⟨h1, h2⟩ := and2 h
          obtain ⟨y, ys, rfl⟩ := bne_nil h4
          have e := of_decide_eq_true h1
          subst e
          obtain ⟨T, hv, hc⟩ := b.ok (X := X) g.calm
          have q := sEs m Γ es g _ h3
          exact sd_pr (qe_ty hc (g.glo h2) (g.bl _ b.mem) hv q.pa b.ne.1 b.ne.2 ((pl_of (q.pl y List.mem_cons_self)).st _ _) (star_any fun b hb => q.pl b (List.mem_cons_of_mem _ hb))) fun _ => rfl
        | cons _ _ => cases h
      | _ => cases h
    | _ => cases h
  | .lrg l, X, sc, g, a, h => by
    unfold mE at h
    split at h
    · obtain ⟨h, h6⟩ := and2 h
      obtain ⟨h, h5⟩ := and2 h
      obtain ⟨h, h4⟩ := and2 h
      obtain ⟨h, h3⟩ := and2 h
      obtain ⟨h1, h2⟩ := and2 h
      have e1 := of_decide_eq_true h1
      have e2 := of_decide_eq_true h2
      subst e1 e2
      exact sd_pr (qe_lrg g.calm (g.glo h3) (g.bl _ (by decide +kernel)) (g.glo h4) (g.bl _ (by decide +kernel)) (sE m Γ l g _ h5).1 ((pl_of h6).st _ _)) fun _ => rfl
    · cases h
  | .isi c l, X, sc, g, a, h => by
    unfold mE at h
    split at h
    · obtain ⟨h, h7⟩ := and2 h
      obtain ⟨h, h6⟩ := and2 h
      obtain ⟨h, h5⟩ := and2 h
      obtain ⟨h, h4⟩ := and2 h
      obtain ⟨h, h3⟩ := and2 h
      obtain ⟨h1, h2⟩ := and2 h
      have e1 := of_decide_eq_true h1
      have e2 := of_decide_eq_true h2
      subst e1 e2
      obtain ⟨b1, b2, b3, b4⟩ := cls_boot (of_decide_eq_true h3)
      exact sd_pr (qe_isi (of_decide_eq_true h3) b1 b2 b3 (sE m Γ l g _ h6).1 h7 (g.glo h4) (g.bl _ (by decide +kernel)) (g.glo h5) (g.bl _ b4)) fun _ => rfl
    · cases h
  | .ix l r, X, sc, g, a, h => by
    cases a with
    | Subscript x y p =>
      simp only [mE] at h
      obtain ⟨h, h3⟩ := and2 h
      obtain ⟨h1, h2⟩ := and2 h
      exact sd_pr (qe_ix (by have := g.units; omega) (sE m Γ l g x h1).1 (sE m Γ r g y h2).1 (pl_of h3).ix) fun _ => rfl
    | _ => cases h
  | .sl l lo hi, X, sc, g, a, h => by
    unfold mE at h
    split at h
    · obtain ⟨h, h3⟩ := and2 h
      obtain ⟨h1, h2⟩ := and2 h
      exact sd_pr (qe_slice (sE m Γ l g _ h1).1 (sEo m Γ lo g _ h2).1 (sEo m Γ hi g _ h3).1) fun _ => rfl
    · cases h
  | .rev l, X, sc, g, a, h => by
    unfold mE at h
    split at h
    · exact sd_pr (qe_rev (sE m Γ l g _ h).1) fun _ => rfl
    · cases h
  | .comp it j c e, X, sc, g, a, h => by
    unfold mE at h
    split at h
    · obtain ⟨h, h7⟩ := and2 h
      obtain ⟨h, h6⟩ := and2 h
      obtain ⟨h, h5⟩ := and2 h
      obtain ⟨h, he⟩ := and2 h
      obtain ⟨h, h4⟩ := and2 h
      obtain ⟨h, h3⟩ := and2 h
      obtain ⟨h1, h2⟩ := and2 h
      refine sd_pr (qe_comp g (of_decide_eq_true h1) h2 h3 (sI m Γ it g _ _ h4 h5 fun z => absurd z (by simpa using he)) (fun X' g' hK => ?_) (fun X' g' hK => (sE m Γ e g' _ h6).1) fun y => (pl_of h5).fo _ _) fun _ => rfl
      split at h7
      · split at h7
        · exact pts_yes
        · cases h7
      · exact pts_one ((sEo m Γ c g' _ h7).2 _ rfl)
      · cases h7
    · cases h
  | .compt it js c e, X, sc, g, a, h => by
    unfold mE at h
    split at h
    · obtain ⟨h, h7⟩ := and2 h
      obtain ⟨h, h6⟩ := and2 h
      obtain ⟨h, h5⟩ := and2 h
      obtain ⟨h, h4⟩ := and2 h
      obtain ⟨h1, h2⟩ := and2 h
      refine sd_pr (qe_compT g h1 h2 (sI m Γ it g _ _ h4 h5 fun _ => ⟨_, _, _, rfl⟩) (fun X' g' hK => ?_) (fun X' g' hK => (sE m Γ e g' _ h6).1) fun y => (pl_of h5).fo _ _) fun _ => rfl
      split at h7
      · split at h7
        · exact pts_yes
        · cases h7
      · exact pts_one ((sEo m Γ c g' _ h7).2 _ rfl)
      · cases h7
    · cases h
  | .newd, X, sc, g, a, h => by
    unfold mE at h
    split at h
    · exact sd_pr qe_newd fun _ => rfl
    · cases h
  | .newd1 l r, X, sc, g, a, h => by
    unfold mE at h
    split at h
    · obtain ⟨h1, h2⟩ := and2 h
      exact sd_pr (qe_newd1 (by have := g.units; omega) (sE m Γ l g _ h1).1 (sE m Γ r g _ h2).1) fun _ => rfl
    · cases h
  | .pop l, X, sc, g, a, h => by
    unfold mE at h
    split at h
    · obtain ⟨h, h4⟩ := and2 h
      obtain ⟨h, h3⟩ := and2 h
      obtain ⟨h1, h2⟩ := and2 h
      have e1 := of_decide_eq_true h1
      subst e1
      exact sd_pr (qe_pop (sE m Γ l g _ h3).1 ((pl_of h4).ab _ _) h2) fun _ => rfl
    · cases h
  | .ext l r, X, sc, g, a, h => by
    unfold mE at h
    split at h
    · obtain ⟨h, h6⟩ := and2 h
      obtain ⟨h, h5⟩ := and2 h
      obtain ⟨h, h4⟩ := and2 h
      obtain ⟨h, h3⟩ := and2 h
      obtain ⟨h1, h2⟩ := and2 h
      have e1 := of_decide_eq_true h1
      subst e1
      refine sd_pr (qe_ext (sE m Γ l g _ h3).1 (sE m Γ r g _ h5).1 ((pl_of h4).ab _ _) ?_ h2 ((pl_of h6).st _ _) (by rfl)) fun _ => rfl
      rw [(pl_of h6).st]
      rfl
    · cases h
  | .app l r, X, sc, g, a, h => by
    unfold mE at h
    split at h
    · obtain ⟨h, h6⟩ := and2 h
      obtain ⟨h, h5⟩ := and2 h
      obtain ⟨h, h4⟩ := and2 h
      obtain ⟨h, h3⟩ := and2 h
      obtain ⟨h1, h2⟩ := and2 h
      have e1 := of_decide_eq_true h1
      subst e1
      refine sd_pr (qs_app (sE m Γ l g _ h3).1 (sE m Γ r g _ h5).1 ((pl_of h4).ab _ _) ?_ h2 ((pl_of h6).st _ _) (by rfl)) fun _ => rfl
      rw [(pl_of h6).st]
      rfl
    · cases h
  | .isi2 c d l, X, sc, g, a, h => by
    unfold mE at h
    split at h
    · obtain ⟨h, h10⟩ := and2 h
      obtain ⟨h, h9⟩ := and2 h
      obtain ⟨h, h8⟩ := and2 h
      obtain ⟨h, h7⟩ := and2 h
      obtain ⟨h, h6⟩ := and2 h
      obtain ⟨h, h5⟩ := and2 h
      obtain ⟨h, h4⟩ := and2 h
      obtain ⟨h, h3⟩ := and2 h
      obtain ⟨h1, h2⟩ := and2 h
      have e1 := of_decide_eq_true h1
      have e2 := of_decide_eq_true h2
      have e3 := of_decide_eq_true h3
      subst e1 e2 e3
      obtain ⟨b1, b2, b3, b4⟩ := cls_boot (of_decide_eq_true h4)
      obtain ⟨c1, c2, c3, c4⟩ := cls_boot (of_decide_eq_true h5)
      exact sd_pr (qe_isi2 (of_decide_eq_true h4) (of_decide_eq_true h5) b1 b2 b3 c1 c2 c3 (sE m Γ l g _ h9).1 h10 (g.glo h6) (g.bl _ (by decide +kernel)) (g.glo h7) (g.bl _ b4) (g.glo h8) (g.bl _ c4)) fun _ => rfl
    · cases h
  | .idx l r, X, sc, g, a, h => by
    unfold mE at h
    split at h
    · obtain ⟨h, h6⟩ := and2 h
      obtain ⟨h, h5⟩ := and2 h
      obtain ⟨h, h4⟩ := and2 h
      obtain ⟨h, h3⟩ := and2 h
      obtain ⟨h1, h2⟩ := and2 h
      have e1 := of_decide_eq_true h1
      subst e1
      have un := g.units
      refine sd_pr (qe_idx (by omega) (sE m Γ l g _ h3).1 (sE m Γ r g _ h5).1 ((pl_of h4).ab _ _) ?_ h2 ((pl_of h6).st _ _) (by rfl)) fun _ => rfl
      rw [(pl_of h6).st]
      rfl
    · cases h
  | .emp, X, sc, g, a, h => by
    unfold mE at h
    split at h
    · exact sd_pr qe_emp fun _ => rfl
    · cases h
  | .up l, X, sc, g, a, h => by
    unfold mE at h
    split at h
    · obtain ⟨h, h4⟩ := and2 h
      obtain ⟨h, h3⟩ := and2 h
      obtain ⟨h1, h2⟩ := and2 h
      have e1 := of_decide_eq_true h1
      subst e1
      exact sd_pr (qe_up (sE m Γ l g _ h3).1 ((pl_of h4).ab _ _) h2) fun _ => rfl
    · cases h
theorem sEs (m : Mc) (Γ : Gm) : ∀ (es : Es) {X : Cx} {sc : Scope} (g : Gd X k m Γ sc) (as : List Expr), mEs m es sc as = true → Sl X Γ es as
  | .nil, X, sc, g, as, h => by
    cases as with
    | nil => exact ⟨fun a ha => by simp at ha, qa_nil, fun z => absurd rfl z, fun z => absurd rfl z⟩
    | cons a as => cases h
  | .cons e .nil, X, sc, g, as, h => by
    cases as with
    | nil => cases h
    | cons a as =>
      simp only [mEs] at h
      obtain ⟨h, h3⟩ := and2 h
      obtain ⟨h1, h2⟩ := and2 h
      have e0 : as = [] := by simpa using h3
      subst e0
      have q := sE m Γ e g a h2
      exact ⟨fun b hb => by rw [List.mem_singleton.mp hb]; exact h1, qa_cons q.1 qa_nil ((pl_of h1).st _ _), fun _ pos => ⟨pe_one q.1, pw_and1 q.2⟩, fun _ pos => ⟨pe_one q.1, pw_or1 q.2⟩⟩
  | .cons e (.cons f es), X, sc, g, as, h => by
    cases as with
    | nil => cases h
    | cons a as =>
      unfold mEs at h
      obtain ⟨h, h3⟩ := and2 h
      obtain ⟨h1, h2⟩ := and2 h
      have r := sEs m Γ (.cons f es) g as h3
      have q := sE m Γ e g a h2
      cases as with
      | nil => cases h3
      | cons b bs =>
        refine ⟨fun c hc => (List.mem_cons.mp hc).elim (fun z => by rw [z]; exact h1) (r.pl c), qa_cons q.1 r.pa ((pl_of h1).st _ _), fun _ pos => ?_, fun _ pos => ?_⟩
        · have r2 := r.an (by simp) pos
          exact ⟨qe_and q.1 r2.1, qw_and q.2 r2.2⟩
        · have r2 := r.or (by simp) pos
          exact ⟨qe_or q.1 r2.1, qw_or q.2 r2.2⟩
theorem sEo (m : Mc) (Γ : Gm) : ∀ (e : Eo) {X : Cx} {sc : Scope} (g : Gd X k m Γ sc) (a : Option Expr), mEo m e sc a = true → PO X a (uO X.K (wOp Γ e)) ∧ ∀ b, a = some b → PT X b (uT X.K (wCd Γ e))
  | .no, X, sc, g, a, h => by
    cases a with
    | none => exact ⟨qo_none, fun _ z => nomatch z⟩
    | some a => cases h
  | .so e, X, sc, g, a, h => by
    cases a with
    | none => cases h
    | some a =>
      have q := sE m Γ e g a h
      exact ⟨qo_some q.1, fun b z => by cases z; exact q.2⟩
theorem sI (m : Mc) (Γ : Gm) : ∀ (it : Iw) {X : Cx} {sc : Scope} (g : Gd X k m Γ sc) (tg a : Expr), mI m it sc a = true → plA a = true → (it.isEn = true → ∃ es kk p, tg = .Tuple es kk p) → PI X tg a (uI X.K (wIt Γ it))
  | .seq e, X, sc, g, tg, a, h, _, _ => qi_seq (sE m Γ e g a h).1
  | .en e, X, sc, g, tg, a, h, _, ht => by
    obtain ⟨es, kk, tp, rfl⟩ := ht rfl
    unfold mI at h
    split at h
    · obtain ⟨h, h4⟩ := and2 h
      obtain ⟨h, h3⟩ := and2 h
      obtain ⟨h1, h2⟩ := and2 h
      have e1 := of_decide_eq_true h1
      subst e1
      exact qi_en (g.glo h2) (g.bl _ (by decide +kernel)) (sE m Γ e g _ h3).1 (by rw [(pl_of h4).st]; rfl)
    · cases h
  | .r1 e, X, sc, g, tg, a, h, _, _ => by
    unfold mI at h
    split at h
    · obtain ⟨h, h4⟩ := and2 h
      obtain ⟨h, h3⟩ := and2 h
      obtain ⟨h1, h2⟩ := and2 h
      have e1 := of_decide_eq_true h1
      subst e1
      exact qi_r1 (g.glo h2) (g.bl _ (by decide +kernel)) (qa_cons (sE m Γ e g _ h3).1 qa_nil ((pl_of h4).st _ _)) (by rw [(pl_of h4).st]; rfl)
    · cases h
  | .r2 e f, X, sc, g, tg, a, h, _, _ => by
    unfold mI at h
    split at h
    · obtain ⟨h, h6⟩ := and2 h
      obtain ⟨h, h5⟩ := and2 h
      obtain ⟨h, h4⟩ := and2 h
      obtain ⟨h, h3⟩ := and2 h
      obtain ⟨h1, h2⟩ := and2 h
      have e1 := of_decide_eq_true h1
      subst e1
      exact qi_r2 (g.glo h2) (g.bl _ (by decide +kernel)) (qa_cons (sE m Γ e g _ h3).1 (qa_cons (sE m Γ f g _ h5).1 qa_nil ((pl_of h6).st _ _)) ((pl_of h4).st _ _)) (by rw [(pl_of h4).st, (pl_of h6).st]; rfl) (by rw [(pl_of h6).st]; rfl)
    · cases h
end
end Pv

/-! Statements of the small tongue; a def by its text. -/
namespace Pv
open PySem L2 PySem.Spec PyProof.Rows
variable {k : Nat} {m : Mc} {Γ : Gm}
mutual
inductive T where
  | nm (i : Nat) | tp (ts : Ts)
inductive Ts where
  | nil | cons (t : T) (ts : Ts)
end
mutual
inductive C where
  | set (t : T) (e : E) | par (i j : Nat) (a b : E) | tri (i j l : Nat) (a b e : E) | put (a b e : E) | put2 (a b c d e : E) | ret (e : E) | retN | ife (t : E) (a b : Cs) | for_ (t : T) (it : Iw) (b : Cs) | whl (t : E) (b : Cs) | ex (e : E) | brk | cnt | pas | doc
inductive Cs where
  | nil | cons (c : C) (cs : Cs)
end
def Ts.len : Ts → Nat
  | .nil => 0
  | .cons _ ts => ts.len + 1
mutual
def wT : T → WG
  | .nm i => gN i
  | .tp ts => gT ts.len (wTs ts)
def wTs : Ts → WGs
  | .nil => gNl
  | .cons t ts => gCn (wT t) (wTs ts)
end
mutual
def wSt (Γ : Gm) : C → WS
  | .set t e => wAsg (wP Γ e).1 (wT t)
  | .par i j a b => wPar i j (wCons (wP Γ a).1 (wCons (wP Γ b).1 wNil))
  | .tri i j l a b e => wTri i j l (wCons (wP Γ a).1 (wCons (wP Γ b).1 (wCons (wP Γ e).1 wNil)))
  | .put a b e => wPut (wP Γ e).1 (wP Γ a).1 (wP Γ b).1
  | .put2 a b c d e => wAsg (wP Γ e).1 (gT 2 (gCn (gS (wP Γ a).1 (wP Γ b).1) (gCn (gS (wP Γ c).1 (wP Γ d).1) gNl)))
  | .ret e => wRet (wP Γ e).1
  | .retN => wRetN
  | .ife t a b => wIfS (wP Γ t).2 (wSs Γ a) (wSs Γ b)
  | .for_ t it b => wFor (wIt Γ it) (wT t) (wSs Γ b)
  | .whl t b => wWhile (wP Γ t).2 (wSs Γ b)
  | .ex e => wDrop (wP Γ e).1
  | .brk => wBrk
  | .cnt => wCnt
  | .pas => wSkip
  | .doc => wSkip
def wSs (Γ : Gm) : Cs → WS
  | .nil => wSkip
  | .cons c .nil => wSt Γ c
  | .cons c cs => wSeq (wSt Γ c) (wSs Γ cs)
end
/-! ### how they stand to the text -/
def plT : Expr → Bool
  | .Name .. => true | .Tuple .. => true | _ => false
mutual
def mT (m : Mc) : T → Scope → Expr → Bool
  | .nm i, sc, a => match a with | .Name x _ => decide (m.N[i]? = some x) && loc sc x | _ => false
  | .tp ts, sc, a => match a with | .Tuple vs _ _ => mTs m ts sc vs | _ => false
def mTs (m : Mc) : Ts → Scope → List Expr → Bool
  | .nil, _, as => as.isEmpty
  | .cons t ts, sc, as => match as with | a :: as => plT a && mT m t sc a && mTs m ts sc as | [] => false
end
def noComp : Expr → Bool
  | .ListComp .. => false | .SetComp .. => false | .DictComp .. => false | _ => true
/-- a name and what a comprehension makes: they change their places on the way -/
def swB (sc : Scope) (y : Str) (py : Pos) (e : Expr) : Bool := match e with
  | .ListComp _ _ scope pos => decide (sc.names.lookup y = some .local) && (py.line == pos.line) && !(scope.names.any fun (n, k) => n == y && (k == .local || k == .cell))
  | _ => false
def noTup : Expr → Bool
  | .Tuple .. => false | _ => true
/-- several targets and a display: stored in order -/
def ordB (sc : Scope) (ts vs : List Expr) : Bool := !(ts.length == 2 || ts.length == 3) || vs.length != ts.length || vs.all (foldedForSure 8) || ts.any fun t => match t with | .Name x _ => !decide (sc.names.lookup x = some .local) && loc sc x | _ => true
def tupE : Expr → Bool
  | .Tuple .. => true | _ => false
mutual
def mC (m : Mc) : C → Scope → Stmt → Bool
  | .set t e, sc, s => match s with
    | .Assign [tg] v _ => mT m t sc tg && plT tg && mE m e sc v && (match tg with
      | .Name y py => match v with
        | .ListComp .. => (decide (sc.names.lookup y = some .local) && swB sc y py v) || decide (sc.names.lookup y = some .cell)
        | _ => noComp v
      | .Tuple ts _ _ => noComp v && (match v with | .Tuple vs _ _ => ordB sc ts vs && vs.all plA | _ => true)
      | _ => false)
    | _ => false
  | .par i j a b, sc, s => match s with
    | .Assign [.Tuple [.Name x px, .Name y py] _ _] (.Tuple [u, v] _ _) _ => decide (m.N[i]? = some x) && decide (m.N[j]? = some y) && decide (i ≠ j) && decide (sc.names.lookup x = some .local) && decide (sc.names.lookup y = some .local) &&
        mE m a sc u && mE m b sc v && plA u && plA v && (px.line == py.line) && decide (x ≠ y) && !([u, v].all (foldedForSure 8)) && !([u, v].all (constantsAlone 8))
    | _ => false
  | .tri i j l a b e, sc, s => match s with
    | .Assign [.Tuple [.Name x px, .Name y py, .Name z pz] _ _] (.Tuple [u, v, w] _ _) _ => decide (m.N[i]? = some x) && decide (m.N[j]? = some y) && decide (m.N[l]? = some z) && (decide (i ≠ j) && decide (i ≠ l) && decide (j ≠ l)) &&
        (decide (sc.names.lookup x = some .local) && decide (sc.names.lookup y = some .local) && decide (sc.names.lookup z = some .local)) &&
        (mE m a sc u && mE m b sc v && mE m e sc w) && (plA u && plA v && plA w) && ((px.line == py.line) && (px.line == pz.line)) && (decide (x ≠ y) && decide (x ≠ z) && decide (y ≠ z)) && !([u, v, w].all (foldedForSure 8)) && !([u, v, w].all (constantsAlone 8))
    | _ => false
  | .put a b e, sc, s => match s with | .Assign [.Subscript x y _] v _ => mE m a sc x && mE m b sc y && plA y && mE m e sc v && noComp v | _ => false
  | .put2 a b c d e, sc, s => match s with
    | .Assign [.Tuple [.Subscript x y _, .Subscript x' y' _] _ _] (.Tuple vs j p) _ => mE m a sc x && mE m b sc y && plA y && mE m c sc x' && mE m d sc y' && plA y' && mE m e sc (.Tuple vs j p) && vs.all plA
    | _ => false
  | .ret e, sc, s => match s with | .Return (some a) _ => mE m e sc a | _ => false
  | .retN, _, s => match s with | .Return none _ => true | _ => false
  | .ife t a b, sc, s => match s with | .If c x y _ => mE m t sc c && mCs m a sc x && mCs m b sc y | _ => false
  | .for_ t it b, sc, s => match s with | .For tg iter body [] _ => mT m t sc tg && mI m it sc iter && (!it.isEn || tupE tg) && plA iter && mCs m b sc body | _ => false
  | .whl t b, sc, s => match s with | .While c body [] _ => mE m t sc c && mCs m b sc body | _ => false
  | .ex e, sc, s => match s with | .Expr a _ => mE m e sc a && noComp a | _ => false
  | .brk, _, s => match s with | .Break _ => true | _ => false
  | .cnt, _, s => match s with | .Continue _ => true | _ => false
  | .pas, _, s => match s with | .Pass _ => true | _ => false
  | .doc, _, s => match s with | .Expr (.Constant (.str _) _ _) _ => true | _ => false
def mCs (m : Mc) : Cs → Scope → List Stmt → Bool
  | .nil, _, ss => ss.isEmpty
  | .cons c cs, sc, ss => match ss with | s :: ss => mC m c sc s && mCs m cs sc ss | [] => false
end
theorem plT_star {a : Expr} (h : plT a = true) (es : List Expr) (env : PySem.Env) : assignEach (a :: es) env = (false, assign a env) :: assignEach es env := by
  cases a <;> first | rfl | cases h
structure Tl (X : Cx) (ts : Ts) (as : List Expr) : Prop where
  len : as.length = ts.len
  st : ∀ env, (assignEach as env).length = ts.len ∧ (assignEach as env).findIdx? (·.1) = none
  pg : PGs X as (uGs X.K (wTs ts))
mutual
theorem sT (m : Mc) (Γ : Gm) : ∀ (t : T) {X : Cx} {sc : Scope} (g : Gd X k m Γ sc) (a : Expr), mT m t sc a = true → PG X a (uG X.K (wT t))
  | .nm i, X, sc, g, a, h => by
    cases a with
    | Name x p =>
      simp only [mT] at h
      obtain ⟨h1, h2⟩ := and2 h
      exact qg_name (by rw [g.N]; exact g.nd) (by rw [g.N]; exact of_decide_eq_true h1) (g.loc h2) (g.fn x h2)
    | _ => cases h
  | .tp ts, X, sc, g, a, h => by
    cases a with
    | Tuple vs j p =>
      have q := sTs m Γ ts g vs h
      exact qg_tup g.calm q.pg (q.st _).1 (q.st _).2
    | _ => cases h
theorem sTs (m : Mc) (Γ : Gm) : ∀ (ts : Ts) {X : Cx} {sc : Scope} (g : Gd X k m Γ sc) (as : List Expr), mTs m ts sc as = true → Tl X ts as
  | .nil, X, sc, g, as, h => by
    cases as with
    | nil => exact ⟨rfl, fun _ => ⟨rfl, rfl⟩, qgs_nil⟩
    | cons a as => cases h
  | .cons t ts, X, sc, g, as, h => by
    cases as with
    | nil => cases h
    | cons a as =>
      simp only [mTs] at h
      obtain ⟨h, h3⟩ := and2 h
      obtain ⟨h1, h2⟩ := and2 h
      have q := sTs m Γ ts g as h3
      refine ⟨by rw [List.length_cons, q.len]; rfl, fun env => ?_, qgs_cons (sT m Γ t g a h2) q.pg (by rw [plT_star h1]; rfl)⟩
      rw [plT_star h1]
      refine ⟨by rw [List.length_cons, (q.st env).1]; rfl, ?_⟩
      rw [List.findIdx?_cons]
      simp [(q.st env).2]
end
theorem sw_no {e : Expr} {t : Option Expr} {l : Nat} {env : PySem.Env} (h : noComp e = true) : swapsWith e t l env = pure false := by
  cases e <;> first | rfl | cases h
theorem st_no {t e : Expr} {env : PySem.Env} (h : noTup e = true) : swappedStores [t] e env = pure none := by
  cases t <;> cases e <;> first | rfl | cases h
theorem st_nm {x : Str} {p : Pos} {e : Expr} {env : PySem.Env} : swappedStores [.Name x p] e env = pure none := by
  cases e <;> rfl
theorem st_sub {a b : Expr} {p : Pos} {e : Expr} {env : PySem.Env} : swappedStores [.Subscript a b p] e env = pure none := by
  cases e <;> rfl
theorem fm_lt {α β : Type} {f : α → Option β} : ∀ {l : List α}, (l.filterMap f).length = l.length → ∀ a ∈ l, (f a).isSome = true
  | [], _, a, ha => by simp at ha
  | b :: l, h, a, ha => by
    have hl := List.length_filterMap_le f l
    rw [List.filterMap_cons] at h
    cases q : f b with
    | none =>
      rw [q] at h
      simp only [List.length_cons] at h
      omega
    | some c =>
      rw [q] at h
      simp only [List.length_cons] at h
      rcases List.mem_cons.mp ha with z | z
      · rw [z, q]
        rfl
      · exact fm_lt (by omega) a z
theorem st_tup {sc : Scope} {X : Cx} (g : Gd X k m Γ sc) {ts vs : List Expr} {j j' : Nat} {p p' : Pos} (h : ordB sc ts vs = true) : swappedStores [.Tuple ts j p] (.Tuple vs j' p') X.env = pure none := by
  unfold swappedStores
  simp only [pure_bind]
  split
  · rfl
  · rename_i h1
    split
    · rfl
    · rename_i h2
      split
      · rfl
      · rename_i h3
        split
        · rfl
        · rename_i h4
          exfalso
          unfold ordB at h
          simp only [Bool.or_eq_true, not_or] at h h1
          rcases h with ((h | h) | h) | h
          · exact h1.1.1 h
          · exact h1.1.2 h
          · exact h4 h
          · rw [List.any_eq_true] at h
            obtain ⟨t, ht, hq⟩ := h
            have e : (ts.filterMap fun x => match x with
              | .Name id pos => if (X.env.kindOf id == some NameKind.local && pos.line == (ts.head?.map (·.pos.line)).getD 0) = true then some id else none
              | _ => none).length = ts.length := by
              simp only [Bool.not_eq_true, Bool.or_eq_false_iff, bne_eq_false_iff_eq] at h3
              exact h3.1
            have q := fm_lt e t ht
            cases t with
            | Name x px =>
              simp only at hq q
              obtain ⟨q1, q2⟩ := and2 hq
              have nl : ¬ sc.names.lookup x = some .local := by simpa using q1
              have hl := g.loc q2
              have : X.env.kindOf x ≠ some .local := by
                unfold Pv.loc at q2
                split at q2
                · exact absurd (by assumption) nl
                · rename_i hc
                  intro z
                  have := g.ce _ hc
                  rw [show X.env.scope.names.lookup x = some .local from z] at this
                  cases this
                · cases q2
              rw [if_neg (by simp [this])] at q
              cases q
            | _ => cases q
theorem any2 {u v : Expr} {f : Expr → Bool} (h1 : f u = false) (h2 : f v = false) : ¬ [u, v].any f = true := by
  rw [List.any_cons, h1, List.any_cons, h2]
  simp
theorem par_sw {sc : Scope} {X : Cx} (g : Gd X k m Γ sc) {x y : Str} {px py p p' : Pos} {j j' : Nat} {u v : Expr} (hx : sc.names.lookup x = some .local) (hy : sc.names.lookup y = some .local) (pu : plA u = true) (pv : plA v = true) (hl : (px.line == py.line) = true) (hxy : x ≠ y)
    (h1 : [u, v].all (foldedForSure 8) = false) (h2 : [u, v].all (constantsAlone 8) = false) : swappedStores [.Tuple [.Name x px, .Name y py] j p] (.Tuple [u, v] j' p') X.env = pure (some [x, y]) := by
  have kx : X.env.kindOf x = some .local := g.lo x hx
  have ky : X.env.kindOf y = some .local := g.lo y hy
  have hb : X.env.blockKind = .function := by
    unfold Env.blockKind
    rw [g.kind]
    rfl
  have e1 : py.line = px.line := (eq_of_beq hl).symm
  have nyx : ¬ y = x := fun z => hxy z.symm
  have hf : ∀ f : Expr → Option Str, f (Expr.Name x px) = some x → f (Expr.Name y py) = some y → [Expr.Name x px, Expr.Name y py].filterMap f = [x, y] := fun f q1 q2 => by
    rw [List.filterMap_cons, q1, List.filterMap_cons, q2, List.filterMap_nil]
  have hd : [x, y].eraseDups.length = 2 := by
    have e : (y == x) = false := beq_eq_false_iff_ne.mpr nyx
    simp [List.eraseDups, List.eraseDupsBy, List.eraseDupsBy.loop, e]
  have hl2 : ((([Expr.Name x px, Expr.Name y py] : List Expr).head?.map (·.pos.line)).getD 0) = px.line := rfl
  unfold swappedStores
  simp only [pure_bind, hl2]
  rw [hf _ (by simp [kx]) (by simp [ky, e1]), if_neg (by rw [hb]; simp), if_neg (any2 (by cases u <;> first | rfl | exact absurd pu Bool.false_ne_true) (by cases v <;> first | rfl | exact absurd pv Bool.false_ne_true)), if_neg (by rw [hd]; simp), if_neg (by rw [h1]; decide), if_neg (by rw [h2]; decide)]
theorem any3 {p : Expr → Bool} {u v w : Expr} (hu : p u = false) (hv : p v = false) (hw : p w = false) : ¬ [u, v, w].any p = true := by simp [hu, hv, hw]
theorem par_sw3 {sc : Scope} {X : Cx} (g : Gd X k m Γ sc) {x y z : Str} {px py pz p p' : Pos} {j j' : Nat} {u v w : Expr} (hx : sc.names.lookup x = some .local) (hy : sc.names.lookup y = some .local) (hz : sc.names.lookup z = some .local) (pu : plA u = true) (pv : plA v = true) (pw : plA w = true) (hl : (px.line == py.line) = true) (hl' : (px.line == pz.line) = true) (hxy : x ≠ y) (hxz : x ≠ z) (hyz : y ≠ z)
    (h1 : [u, v, w].all (foldedForSure 8) = false) (h2 : [u, v, w].all (constantsAlone 8) = false) : swappedStores [.Tuple [.Name x px, .Name y py, .Name z pz] j p] (.Tuple [u, v, w] j' p') X.env = pure (some [x, y, z]) := by
  have kx : X.env.kindOf x = some .local := g.lo x hx
  have ky : X.env.kindOf y = some .local := g.lo y hy
  have kz : X.env.kindOf z = some .local := g.lo z hz
  have hb : X.env.blockKind = .function := by
    unfold Env.blockKind
    rw [g.kind]
    rfl
  have e1 : py.line = px.line := (eq_of_beq hl).symm
  have e2 : pz.line = px.line := (eq_of_beq hl').symm
  have hf : ∀ f : Expr → Option Str, f (Expr.Name x px) = some x → f (Expr.Name y py) = some y → f (Expr.Name z pz) = some z → [Expr.Name x px, Expr.Name y py, Expr.Name z pz].filterMap f = [x, y, z] := fun f q1 q2 q3 => by
    rw [List.filterMap_cons, q1, List.filterMap_cons, q2, List.filterMap_cons, q3, List.filterMap_nil]
  have hd : [x, y, z].eraseDups.length = 3 := by
    have e : (y == x) = false := beq_eq_false_iff_ne.mpr fun q => hxy q.symm
    have e' : (z == x) = false := beq_eq_false_iff_ne.mpr fun q => hxz q.symm
    have e'' : (z == y) = false := beq_eq_false_iff_ne.mpr fun q => hyz q.symm
    simp [List.eraseDups, List.eraseDupsBy, List.eraseDupsBy.loop, e, e', e'']
  have hl2 : ((([Expr.Name x px, Expr.Name y py, Expr.Name z pz] : List Expr).head?.map (·.pos.line)).getD 0) = px.line := rfl
  unfold swappedStores
  simp only [pure_bind, hl2]
  rw [hf _ (by simp [kx]) (by simp [ky, e1]) (by simp [kz, e2]), if_neg (by rw [hb]; simp), if_neg (any3 (by cases u <;> first | rfl | exact absurd pu Bool.false_ne_true) (by cases v <;> first | rfl | exact absurd pv Bool.false_ne_true) (by cases w <;> first | rfl | exact absurd pw Bool.false_ne_true)), if_neg (by rw [hd]; simp), if_neg (by rw [h1]; decide), if_neg (by rw [h2]; decide)]
end Pv

namespace Pv
open PySem L2 PySem.Spec PyProof.Rows
variable {k : Nat} {m : Mc} {Γ : Gm}
theorem notT {b : Bool} (h : (!b) = true) : b = false := by
  cases b with
  | true => cases h
  | false => rfl
theorem sole_no {t e : Expr} {l : Nat} {env : PySem.Env} (h : noComp e = true) : swapsWithSole [t] e l env = pure false := by
  cases e <;> first | rfl | cases h
theorem asg_sub {x y : Expr} {p : Pos} {env : PySem.Env} (h : plA y = true) (v : Value) : assign (.Subscript x y p) env v = (do
      let ov ← holding [v] (eval x env)
      let iv ← holding [v, ov] (eval y env)
      standAt p
      holding [v, ov, iv] (setItem ov iv v)
      release [v, ov, iv] []) := by
  cases y <;> first | rfl | cases h
theorem blkName {env : PySem.Env} (h : env.scope.kind = .function) : env.blockKind = .function := by
  unfold Env.blockKind
  rw [h]
  rfl
theorem sw_cell {y : Str} {py : Pos} {elt : Expr} {gs : List Comprehension} {scope : Scope} {pos : Pos} {l : Nat} {env : PySem.Env} (h : env.scope.names.lookup y = some .cell) : swapsWith (.ListComp elt gs scope pos) (some (.Name y py)) l env = pure false := by
  have e : env.kindOf y = some .cell := h
  show pure (env.blockKind == .function && env.kindOf y == some .local && py.line == pos.line && !(scope.names.any fun (n, k) => n == y && (k == .local || k == .cell))) = pure false
  rw [e, show (some NameKind.cell == some NameKind.local) = false from rfl, Bool.and_false, Bool.false_and, Bool.false_and]
theorem tup_ex {a : Expr} (h : tupE a = true) : ∃ es kk p, a = .Tuple es kk p := by
  cases a with
  | Tuple es kk p => exact ⟨es, kk, p, rfl⟩
  | _ => cases h
mutual
theorem sC (m : Mc) (Γ : Gm) : ∀ (c : C) {X : Cx} {sc : Scope} (g : Gd X k m Γ sc) (s : Stmt), mC m c sc s = true → PS X s (uS X.K (wSt Γ c))
  | .set t e, X, sc, g, s, h => by
    unfold mC at h
    split at h
    · rename_i tg v p
      obtain ⟨h, h4⟩ := and2 h
      obtain ⟨h, h3⟩ := and2 h
      obtain ⟨h1, h2⟩ := and2 h
      have G := sT m Γ t g tg h1
      have hE := (sE m Γ e g v h3).1
      cases tg with
      | Name y py =>
        have nc : (∀ (elt : Expr) (gs : List Comprehension) (scope : Scope) (pos : Pos), v ≠ .ListComp elt gs scope pos) → noComp v = true := fun z => by
          cases v <;> first | exact h4 | exact absurd rfl (z _ _ _ _)
        by_cases isC : ∃ (elt : Expr) (gs : List Comprehension) (scope : Scope) (pos : Pos), v = .ListComp elt gs scope pos
        · obtain ⟨elt, gs, scope, pos, rfl⟩ := isC
          simp only at h4
          rw [Bool.or_eq_true] at h4
          rcases h4 with h4 | h4
          rotate_left
          · have hc := g.ce y (of_decide_eq_true h4)
            cases t with
            | tp ts => cases h1
            | nm i =>
              simp only [mT] at h1
              obtain ⟨hi, hx⟩ := and2 h1
              exact qs_set (by rw [g.N]; exact g.nd) (by rw [g.N]; exact of_decide_eq_true hi) (g.loc hx) hE (sw_cell hc) (g.fn y hx)
          obtain ⟨hl, hsw⟩ := and2 h4
          unfold swB at hsw
          simp only at hsw
          obtain ⟨hsw, q3⟩ := and2 hsw
          obtain ⟨_, q2⟩ := and2 hsw
          have hyl := g.lo y (of_decide_eq_true hl)
          cases t with
          | tp ts => cases h1
          | nm i =>
            simp only [mT] at h1
            obtain ⟨hi, _⟩ := and2 h1
            have sw : swapsWith (.ListComp elt gs scope pos) (some (.Name y py)) p.line X.env = pure true := sw_true g.kind hyl q2 (notT q3)
            cases e with
            | comp it j c e =>
              unfold mE at h3
              split at h3
              · rename_i heq
                obtain ⟨r, r7⟩ := and2 h3
                obtain ⟨r, r6⟩ := and2 r
                obtain ⟨r, r5⟩ := and2 r
                obtain ⟨r, re⟩ := and2 r
                obtain ⟨r, r4⟩ := and2 r
                obtain ⟨r, r3⟩ := and2 r
                obtain ⟨r1, r2⟩ := and2 r
                cases heq
                refine qs_setc g (of_decide_eq_true r1) r2 r3 (sI m Γ it g _ _ r4 r5 fun z => absurd z (by simpa using re)) (fun X' g' hK => ?_) (fun X' g' hK => (sE m Γ e g' _ r6).1) (fun y => (pl_of r5).fo _ _) (of_decide_eq_true hi) hyl sw
                split at r7
                · split at r7
                  · exact pts_yes
                  · cases r7
                · exact pts_one ((sEo m Γ c g' _ r7).2 _ rfl)
                · cases r7
              · cases h3
            | compt it js c e =>
              unfold mE at h3
              split at h3
              · rename_i heq
                obtain ⟨r, r7⟩ := and2 h3
                obtain ⟨r, r6⟩ := and2 r
                obtain ⟨r, r5⟩ := and2 r
                obtain ⟨r, r4⟩ := and2 r
                obtain ⟨r1, r2⟩ := and2 r
                cases heq
                refine qs_setcT g r1 r2 (sI m Γ it g _ _ r4 r5 fun _ => ⟨_, _, _, rfl⟩) (fun X' g' hK => ?_) (fun X' g' hK => (sE m Γ e g' _ r6).1) (fun y => (pl_of r5).fo _ _) (of_decide_eq_true hi) hyl sw
                split at r7
                · split at r7
                  · exact pts_yes
                  · cases r7
                · exact pts_one ((sEo m Γ c g' _ r7).2 _ rfl)
                · cases r7
              · cases h3
            | _ => cases h3
        · have h4 := nc fun a b c d e => isC ⟨a, b, c, d, e⟩
          cases t with
          | tp ts => cases h1
          | nm i =>
            simp only [mT] at h1
            obtain ⟨hi, hx⟩ := and2 h1
            exact qs_set (by rw [g.N]; exact g.nd) (by rw [g.N]; exact of_decide_eq_true hi) (g.loc hx) hE (sw_no h4) (g.fn y hx)
      | Tuple ts j p2 =>
        simp only at h4
        obtain ⟨h5, h6⟩ := and2 h4
        refine qs_asg hE G (sole_no h5) ?_ rfl
        split at h6
        · exact st_tup g (and2 h6).1
        · cases v <;> first | rfl | exact absurd rfl (by assumption) | (exfalso; rename_i z _; exact z _ _ _ rfl) | (exfalso; rename_i z; exact z _ _ _ rfl)
      | _ => cases h2
    · cases h
  | .par i j a b, X, sc, g, s, h => by
    unfold mC at h
    split at h
    · obtain ⟨h, h13⟩ := and2 h
      obtain ⟨h, h12⟩ := and2 h
      obtain ⟨h, h11⟩ := and2 h
      obtain ⟨h, h10⟩ := and2 h
      obtain ⟨h, h9⟩ := and2 h
      obtain ⟨h, h8⟩ := and2 h
      obtain ⟨h, h7⟩ := and2 h
      obtain ⟨h, h6⟩ := and2 h
      obtain ⟨h, h5⟩ := and2 h
      obtain ⟨h, h4⟩ := and2 h
      obtain ⟨h, h3⟩ := and2 h
      obtain ⟨h1, h2⟩ := and2 h
      exact qs_par g.calm (by rw [g.N]; exact g.nd) (by rw [g.N]; exact of_decide_eq_true h1) (by rw [g.N]; exact of_decide_eq_true h2) (of_decide_eq_true h3) (g.lo _ (of_decide_eq_true h4)) (g.lo _ (of_decide_eq_true h5))
        (qa_cons (sE m Γ a g _ h6).1 (qa_cons (sE m Γ b g _ h7).1 qa_nil ((pl_of h9).st _ _)) ((pl_of h8).st _ _))
        (par_sw g (of_decide_eq_true h4) (of_decide_eq_true h5) h8 h9 h10 (of_decide_eq_true h11) (notT h12) (notT h13)) rfl
    · cases h
  | .tri i j l a b e, X, sc, g, s, h => by
    unfold mC at h
    split at h
    · obtain ⟨h, n2⟩ := and2 h
      obtain ⟨h, n1⟩ := and2 h
      obtain ⟨h, hd⟩ := and2 h
      obtain ⟨h, hp⟩ := and2 h
      obtain ⟨h, hq⟩ := and2 h
      obtain ⟨h, hm⟩ := and2 h
      obtain ⟨h, hs⟩ := and2 h
      obtain ⟨h, hi⟩ := and2 h
      obtain ⟨h, i3⟩ := and2 h
      obtain ⟨i1, i2⟩ := and2 h
      obtain ⟨hd, d3⟩ := and2 hd
      obtain ⟨d1, d2⟩ := and2 hd
      obtain ⟨p1, p2⟩ := and2 hp
      obtain ⟨hq, q3⟩ := and2 hq
      obtain ⟨q1, q2⟩ := and2 hq
      obtain ⟨hm, m3⟩ := and2 hm
      obtain ⟨m1, m2⟩ := and2 hm
      obtain ⟨hs, s3⟩ := and2 hs
      obtain ⟨s1, s2⟩ := and2 hs
      obtain ⟨hi, j3⟩ := and2 hi
      obtain ⟨j1, j2⟩ := and2 hi
      exact qs_tri g.calm (by rw [g.N]; exact g.nd) (by rw [g.N]; exact of_decide_eq_true i1) (by rw [g.N]; exact of_decide_eq_true i2) (by rw [g.N]; exact of_decide_eq_true i3) (of_decide_eq_true j1) (of_decide_eq_true j2) (of_decide_eq_true j3) (g.lo _ (of_decide_eq_true s1)) (g.lo _ (of_decide_eq_true s2)) (g.lo _ (of_decide_eq_true s3))
        (qa_cons (sE m Γ a g _ m1).1 (qa_cons (sE m Γ b g _ m2).1 (qa_cons (sE m Γ e g _ m3).1 qa_nil ((pl_of q3).st _ _)) ((pl_of q2).st _ _)) ((pl_of q1).st _ _))
        (par_sw3 g (of_decide_eq_true s1) (of_decide_eq_true s2) (of_decide_eq_true s3) q1 q2 q3 p1 p2 (of_decide_eq_true d1) (of_decide_eq_true d2) (of_decide_eq_true d3) (notT n1) (notT n2)) rfl
    · cases h
  | .put a b e, X, sc, g, s, h => by
    unfold mC at h
    split at h
    · obtain ⟨h, h5⟩ := and2 h
      obtain ⟨h, h4⟩ := and2 h
      obtain ⟨h, h3⟩ := and2 h
      obtain ⟨h1, h2⟩ := and2 h
      exact qs_put (by have := g.units; omega) (sE m Γ e g _ h4).1 (sE m Γ a g _ h1).1 (sE m Γ b g _ h2).1 (asg_sub h3) (sole_no h5) st_sub rfl
    · cases h
  | .put2 a b c d e, X, sc, g, s, h => by
    unfold mC at h
    split at h
    · obtain ⟨h, h8⟩ := and2 h
      obtain ⟨h, h7⟩ := and2 h
      obtain ⟨h, h6⟩ := and2 h
      obtain ⟨h, h5⟩ := and2 h
      obtain ⟨h, h4⟩ := and2 h
      obtain ⟨h, h3⟩ := and2 h
      obtain ⟨h1, h2⟩ := and2 h
      have hu : X.A.units + 64 < cLine := by have := g.units; omega
      refine qs_asg (sE m Γ e g _ h7).1 (qg_tup g.calm (qgs_cons (qg_sub hu (sE m Γ a g _ h1).1 (sE m Γ b g _ h2).1 (asg_sub h3)) (qgs_cons (qg_sub hu (sE m Γ c g _ h4).1 (sE m Γ d g _ h5).1 (asg_sub h6)) qgs_nil rfl) rfl) rfl rfl) (sole_no rfl) ?_ rfl
      exact st_tup g (by simp [ordB])
    · cases h
  | .ret e, X, sc, g, s, h => by
    unfold mC at h
    split at h
    · exact qs_ret (sE m Γ e g _ h).1
    · cases h
  | .retN, X, sc, g, s, h => by
    unfold mC at h
    split at h
    · exact qs_retN
    · cases h
  | .ife t a b, X, sc, g, s, h => by
    unfold mC at h
    split at h
    · obtain ⟨h, h3⟩ := and2 h
      obtain ⟨h1, h2⟩ := and2 h
      exact qs_if (sE m Γ t g _ h1).2 (sCs m Γ a g _ h2) (sCs m Γ b g _ h3)
    · cases h
  | .for_ t it b, X, sc, g, s, h => by
    unfold mC at h
    split at h
    · obtain ⟨h, h4⟩ := and2 h
      obtain ⟨h, h3⟩ := and2 h
      obtain ⟨h, he⟩ := and2 h
      obtain ⟨h1, h2⟩ := and2 h
      exact qs_for g.xe g.calm (sI m Γ it g _ _ h2 h3 fun z => tup_ex (by rw [z] at he; simpa using he)) (sT m Γ t g _ h1) (sCs m Γ b g _ h4) fun y => (pl_of h3).fo _ _
    · cases h
  | .whl t b, X, sc, g, s, h => by
    unfold mC at h
    split at h
    · obtain ⟨h1, h2⟩ := and2 h
      exact qs_while g.xe (sE m Γ t g _ h1).2 (sCs m Γ b g _ h2)
    · cases h
  | .ex e, X, sc, g, s, h => by
    unfold mC at h
    split at h
    · obtain ⟨h1, h2⟩ := and2 h
      exact qs_drop (sE m Γ e g _ h1).1 (sw_no h2)
    · cases h
  | .brk, X, sc, g, s, h => by
    unfold mC at h
    split at h
    · exact qs_brk
    · cases h
  | .cnt, X, sc, g, s, h => by
    unfold mC at h
    split at h
    · exact qs_cnt
    · cases h
  | .pas, X, sc, g, s, h => by
    unfold mC at h
    split at h
    · exact qs_pass
    · cases h
  | .doc, X, sc, g, s, h => by
    unfold mC at h
    split at h
    · exact qs_doc
    · cases h
theorem sCs (m : Mc) (Γ : Gm) : ∀ (c : Cs) {X : Cx} {sc : Scope} (g : Gd X k m Γ sc) (ss : List Stmt), mCs m c sc ss = true → PSs X ss (uS X.K (wSs Γ c))
  | .nil, X, sc, g, ss, h => by
    cases ss with
    | nil => exact qss_nil
    | cons _ _ => cases h
  | .cons c .nil, X, sc, g, ss, h => by
    cases ss with
    | nil => cases h
    | cons s ss =>
      simp only [mCs] at h
      obtain ⟨h1, h2⟩ := and2 h
      have e : ss = [] := by simpa using h2
      subst e
      exact qss_one (sC m Γ c g s h1)
  | .cons c (.cons d cs), X, sc, g, ss, h => by
    cases ss with
    | nil => cases h
    | cons s ss =>
      unfold mCs at h
      obtain ⟨h1, h2⟩ := and2 h
      exact qss_cons (sC m Γ c g s h1) (sCs m Γ (.cons d cs) g ss h2)
end
end Pv

/-! The defs of a text one behind another, and the end. -/
namespace Pv
open PySem L2 PySem.Spec PyProof.Rows

/-- a def: its name, its text, its names, what it says, and a contract for each number of its own calls within one another (none: 0) -/
structure Df where
  x : Str
  st : Stmt
  N : List Str
  ps : List Str
  body : Cs
  R : Nat
  C : Nat → OL
  kw : List (Str × Lf) := []
def noC : OL := fun _ _ _ => False
/-- a contract of a def that does not call itself -/
def one (C : OL) : Nat → OL
  | 0 => noC
  | _ + 1 => C
def gam (defs : List Df) (gl : Nat → D) (i r : Nat) : Gm where
  fn := fun j => if j < i then (match defs[j]? with | some d => d.C d.R | none => noC) else if j = i then (match defs[i]? with | some d => d.C r | none => noC) else noC
  gl := gl
theorem noG {P : Program} {w : World} {K : PySem.W.Frag} {mg : Str → Option Value} {base : Heap} {k : Nat} {f : Addr} {fd : FuncData} {ps : List Str} : FnG P w K mg base k f fd ps noC :=
  ⟨fun _ _ _ h => h.elim, fun _ _ _ _ _ _ _ _ _ _ _ _ _ ⟨_, _, _, _, _, _, _, h, _⟩ => h.elim⟩
structure TopOk (P : Program) (w : World) (K : PySem.W.Frag) (mg : Str → Option Value) (defs : List Df) (gs : List Str) (gl : Nat → D) (f : Nat → Addr) (fd : Nat → FuncData) : Prop where
  fn : ∀ (i : Nat) (d : Df), defs[i]? = some d → Fun K d.x d.x d.st (f i) (fd i) ∧ mg d.x = some (.ref (f i)) ∧ BindK K (fd i) d.ps d.kw
  gs : ∀ (i : Nat) (x : Str), gs[i]? = some x → ∃ u v, mg x = some u ∧ RelV v u ∧ ∀ w, RD K w (gl i) v
  bl : ∀ x ∈ bnames, mg x = none
/-- what is checked of the texts -/
def txtOk (defs : List Df) (gs : List Str) : Bool := defs.all fun d => mCs ⟨d.N, defs.map Df.x, gs, defs.map Df.kw⟩ d.body (defScope d.st) (defBody d.st)
abbrev Lv (P : Program) (w : World) (K : PySem.W.Frag) (mg : Str → Option Value) (base : Heap) (defs : List Df) (gl : Nat → D) (f : Nat → Addr) (fd : Nat → FuncData) (l i r : Nat) : Prop :=
  ∀ (j : Nat) (d : Df), defs[j]? = some d → FnG P w K mg base l (f j) (fd j) d.ps ((gam defs gl i r).fn j)
section
variable {P : Program} {w : World} {K : PySem.W.Frag} {mg : Str → Option Value} {base : Heap} {defs : List Df} {gs : List Str} {gl : Nat → D} {f : Nat → Addr} {fd : Nat → FuncData} {l i r : Nat}
theorem lv_R (T : TopOk P w K mg defs gs gl f fd) (L : Lv P w K mg base defs gl f fd l i r) {d : Df} (hd : defs[i]? = some d) (ht : mCs ⟨d.N, defs.map Df.x, gs, defs.map Df.kw⟩ d.body (defScope d.st) (defBody d.st) = true) (sc : FnScope d.N d.ps (defScope d.st))
    (hlen : ∀ ds S Q, d.C (r + 1) ds S Q → ds.length = d.ps.length) (wp : ∀ ds S Q, d.C (r + 1) ds S Q → wSs (gam defs gl i r) d.body (inE d.N ds) S { nx := fun _ S' => Q .non S', rt := Q }) : Lv P w K mg base defs gl f fd (l + 1) i (r + 1) := by
  intro j dj hj
  by_cases e : j = i
  · subst e
    rw [hd] at hj
    cases hj
    have eC : (gam defs gl j (r + 1)).fn j = d.C (r + 1) := by
      unfold gam
      simp only [Nat.lt_irrefl, if_false, if_true, hd]
    rw [eC]
    obtain ⟨F, hm, hb⟩ := T.fn j d hd
    refine fnG_of F sc hlen (fun cdv A out s H hg hr => ?_) wp
    refine sCs ⟨d.N, defs.map Df.x, gs, defs.map Df.kw⟩ (gam defs gl j r) d.body (k := l) (sc := defScope d.st) ?_ _ ht
    exact { N := rfl, calm := rfl, room := hr, gd := hg, xe := rfl, nd := sc.nd, fn := fun _ _ => .inl rfl, lo := fun _ h => h, ce := fun _ h => h, fr := fun _ h => .inr h, gl := fun _ h => h, kind := sc.kind,
            fs := fun i x hx => by
              rw [List.getElem?_map, Option.map_eq_some_iff] at hx
              obtain ⟨d', hd', rfl⟩ := hx
              obtain ⟨F', hm', hb'⟩ := T.fn i d' hd'
              have e : (Mc.kwOf ⟨d.N, defs.map Df.x, gs, defs.map Df.kw⟩ i) = d'.kw := by
                show (defs.map Df.kw).getD i [] = d'.kw
                rw [List.getD_eq_getElem?_getD, List.getElem?_map, hd']
                rfl
              rw [e]
              exact ⟨f i, fd i, d'.ps, hm', F'.kp, hb', L i d' hd'⟩,
            gs := T.gs, bl := T.bl }
  · have eC : (gam defs gl i (r + 1)).fn j = (gam defs gl i r).fn j := by
      unfold gam
      simp only [e, if_false]
    rw [eC]
    exact (L j dj hj).mono (Nat.le_succ _)
theorem lv_I (L : Lv P w K mg base defs gl f fd l i r) {d : Df} (hd : defs[i]? = some d) (hr : r = d.R) (h0 : ∀ d ∈ defs, d.C 0 = noC) : Lv P w K mg base defs gl f fd l (i + 1) 0 := by
  subst hr
  intro j dj hj
  have q := L j dj hj
  by_cases e : j < i + 1
  · have eC : (gam defs gl (i + 1) 0).fn j = (gam defs gl i d.R).fn j := by
      unfold gam
      simp only [e, if_true]
      by_cases h : j < i
      · simp only [h, if_true]
      · have h2 : j = i := by omega
        subst h2
        simp only [Nat.lt_irrefl, if_false, if_true]
        rw [hd]
    rw [eC]
    exact q
  · have eC : (gam defs gl (i + 1) 0).fn j = noC := by
      unfold gam
      simp only [e, if_false]
      split
      · rename_i h2
        subst h2
        rw [hj]
        exact h0 dj (List.mem_of_getElem? hj)
      · rfl
    rw [eC]
    exact noG
theorem lv_0 (h0 : ∀ d ∈ defs, d.C 0 = noC) : Lv P w K mg base defs gl f fd 0 0 0 := by
  intro j dj hj
  have eC : (gam defs gl 0 0).fn j = noC := by
    unfold gam
    simp only [Nat.not_lt_zero, if_false]
    split
    · rename_i h2
      subst h2
      rw [hj]
      exact h0 dj (List.mem_of_getElem? hj)
    · rfl
  rw [eC]
  exact noG
/-- what each def of the text wants shown -/
structure DefOk (defs : List Df) (gs : List Str) (gl : Nat → D) (i : Nat) (d : Df) : Prop where
  txt : mCs ⟨d.N, defs.map Df.x, gs, defs.map Df.kw⟩ d.body (defScope d.st) (defBody d.st) = true
  sc : FnScope d.N d.ps (defScope d.st)
  c0 : d.C 0 = noC
  len : ∀ r ds S Q, d.C (r + 1) ds S Q → ds.length = d.ps.length
  wp : ∀ r, r < d.R → ∀ ds S Q, d.C (r + 1) ds S Q → wSs (gam defs gl i r) d.body (inE d.N ds) S { nx := fun _ S' => Q .non S', rt := Q }
theorem lv_all (T : TopOk P w K mg defs gs gl f fd) (h : ∀ (i : Nat) (d : Df), defs[i]? = some d → DefOk defs gs gl i d) : ∀ i, i ≤ defs.length → Lv P w K mg base defs gl f fd ((defs.take i).map Df.R).sum i 0 := by
  have h0 : ∀ d ∈ defs, d.C 0 = noC := fun d hd => by
    obtain ⟨i, hi⟩ := List.getElem?_of_mem hd
    exact (h i d hi).c0
  intro i
  induction i with
  | zero => intro _; exact lv_0 h0
  | succ i ih =>
    intro hi
    have hlt : i < defs.length := hi
    have hd : defs[i]? = some defs[i] := List.getElem?_eq_getElem hlt
    have D := h i _ hd
    have base0 := ih (Nat.le_of_lt hlt)
    have go : ∀ r, r ≤ defs[i].R → Lv P w K mg base defs gl f fd (((defs.take i).map Df.R).sum + r) i r := by
      intro r
      induction r with
      | zero => intro _; exact base0
      | succ r ihr =>
        intro hr
        exact lv_R T (ihr (Nat.le_of_succ_le hr)) hd D.txt D.sc (D.len r) (D.wp r hr)
    have q := lv_I (go defs[i].R (Nat.le_refl _)) hd rfl h0
    have e : ((defs.take (i + 1)).map Df.R).sum = ((defs.take i).map Df.R).sum + defs[i].R := by
      rw [List.take_succ_eq_append_getElem hlt, List.map_append, List.sum_append]
      simp
    rw [e]
    exact q
end
/-! ### the end -/
/-- the law of a script of at most n whole numbers comes to True -/
def lawC (n : Nat) : OL := fun ds S Q => ∃ ns : List Int, ds = [.lst (ns.map D.int)] ∧ ns.length ≤ n ∧ S = [] ∧ ∀ S', Q (.bl true) S'
theorem ints_rds {K : PySem.W.Frag} {w : Wd} : ∀ ns : List Int, RDs K w (ns.map D.int) (ns.map V.int)
  | [] => .nil
  | n :: ns => .cons (.int n) (ints_rds ns)
theorem law_u {K : PySem.W.Frag} {H : Hp} {a : Addr} {ns : List Int} {n : Nat} (hz : ns.length ≤ n) (hn : n ≤ sizeLine) (h : SqL K H a (ns.map V.int)) : uL K (lawC n) [.ref a] H fun v _ => v = .bl true := by
  refine ⟨⟨fun _ => 0, 0, H, fun _ => False⟩, [], [.lst (ns.map D.int)], fun d _ => d = .bl true, rfl, ⟨rfl, fun _ _ z => absurd z (Nat.not_lt_zero _), fun _ z => absurd z (Nat.not_lt_zero _), fun _ z => z.elim, fun i xs e => by simp at e⟩, .cons (.lst ?_ (by rw [List.length_map]; omega) (ints_rds ns)) .nil, ⟨ns, rfl, hz, rfl, fun _ => rfl⟩, fun d S' w' v q _ _ r => ?_⟩
  · rcases h with h | h
    · exact .inl ⟨h, fun z => z.elim (fun ⟨i, hi, _⟩ => absurd hi (Nat.not_lt_zero _)) id⟩
    · exact .inr (.inr h)
  · subst q
    cases r
    rfl
theorem enter_law {P : Program} {w : World} {K : PySem.W.Frag} {mg mb : Str → Option Value} {k n : Nat} {fa a : Addr} {fd : FuncData} {x : Str} {s : Shared} {vs : List Value} {ns : List Int} (kx : K.In s.heap) (gl : s.heap.Ns mainGlobals mg) (bt : s.heap.Ns builtinsNs mb)
    (bb : ∀ x : Str, x ≠ "__name__" → mb x = bootBuiltins x) (nl : s.heap.NoLimit) (gn : s.gens = #[]) (ha : s.heap.get? a = some { cls := .type "list", data := .seq vs.toArray }) (hi : IntsAre vs ns) (hz : ns.length ≤ n) (hn : n ≤ sizeLine) (hr : Room k callerA)
    (F : ∀ base : Heap, K.In base → base.Ns mainGlobals mg → FnG P w K mg base k fa fd [x] (lawC n)) (hb : ∀ (s : Shared) (u : Value), BindsTo s fd ⟨[u], []⟩ [(x, u)]) :
    codeAny (model P w) callerA (.call (.ref fa) ⟨[.ref a], []⟩) (fun r s' => r = .ok (.ret (.bool true)) ∧ OldK s.heap s'.heap ∧ s'.os = s.os ∧ AllBare s'.gens) s := by
  have rel := vals_ints hi
  have lv := hi.length
  have main : ∀ H : Hp, Only H → SqL K H a (ns.map V.int) → HOk P w H s.heap → (∀ b, H b ≠ none → b = a) → (H a ≠ none → K.lookup a = none) →
      codeAny (model P w) callerA (.call (.ref fa) ⟨[.ref a], []⟩) (fun r s' => r = .ok (.ret (.bool true)) ∧ OldK s.heap s'.heap ∧ s'.os = s.os ∧ AllBare s'.gens) s := by
    intro H only hS ok alone noK
    have same : ∀ {b : Addr} {o : Obj}, s.heap.get? b = some o → (b = a → False) → (hidT s.heap H).get? b = some o := fun {b o} e ne => hidT_get e (Classical.byContradiction fun z => ne (alone b z))
    have names : ∀ {b : Addr} {m : Str → Option Value}, s.heap.Ns b m → (hidT s.heap H).Ns b m := fun {b m} ⟨o, es, ep, e, d, r⟩ => ⟨o, es, ep, same e (fun z => by
      subst z
      rw [ha] at e
      cases e
      have d' : Data.seq vs.toArray _ = Data.dict es ep := d
      cases d'), d, r⟩
    have kb : K.In (hidT s.heap H) := fun b o e => by
      cases q : H b with
      | none => exact hidT_get (kx b o e) q
      | some u =>
        have z := alone b (by rw [q]; simp)
        subst z
        rw [noK (by rw [q]; simp)] at e
        cases e
    have mo : Mod K mg (hidT s.heap H) := ⟨kb, names gl, ⟨mb, names bt, bb⟩, nl.elim fun mc h => ⟨mc, names h.1, h.2⟩⟩
    have en : Env0 P w K mg (hidT s.heap H) callerA [] s H := ⟨rfl, mo, fun b o e => of_hidT e, Nat.le_of_eq (hidT_size _ _), trivial, fun b z => absurd (show b ∈ ([] : List Addr) from z) (by simp), ok, .of_eq gn⟩
    refine codeAny_mono ((F _ kb (names gl)).run callerA [] s H ⟨[.ref a], []⟩ [.ref a] [.ref a] _ rfl hr en (hb s (.ref a)) (.cons rfl .nil) (law_u hz hn hS)) fun r s' h => ?_
    cases r with
    | error e => exact h.elim
    | ok fl =>
      cases fl with
      | next => exact h.elim
      | brk => exact h.elim
      | cont => exact h.elim
      | ret u =>
        obtain ⟨v, H', os, bare, un, ok', rv, q⟩ := h
        have q' : v = .bl true := q
        subst q'
        have eu : u = Value.bool true := rv
        subst eu
        refine ⟨rfl, OldK.of_keep fun b o e => ?_, os, bare⟩
        rcases only b with z | ⟨ob, xs, z⟩
        · exact un.keep b o e z (fun y => absurd (show b ∈ ([] : List Addr) from y) (by simp)) (by simp)
        · have e1 := (ok b _ z).1
          have e2 := (ok' b _ (un.frzs b ob _ z)).1
          rw [e] at e1
          cases e1
          exact e2
  cases hk : K.lookup a with
  | some o =>
    have e := kx a o hk
    rw [ha] at e
    cases e
    exact main (fun _ => none) (fun _ => .inl rfl) (.inr ⟨_, vs.toArray, _, hk, rfl, rfl, rfl, by rw [List.size_toArray, lv]; omega, by simpa using rel⟩) (fun b u z => nomatch (show (none : Option HO) = some u from z)) (fun b z => absurd rfl z) fun z => absurd rfl z
  | none =>
    have at_ : ∀ b : Addr, (if b = a then some (HO.frz { cls := .type "list", data := .seq vs.toArray } (.lst (ns.map V.int))) else none) ≠ none → b = a := fun b z => Classical.byContradiction fun n => z (if_neg n)
    refine main (fun b => if b = a then some (.frz { cls := .type "list", data := .seq vs.toArray } (.lst (ns.map V.int))) else none) (fun b => ?_) (.inl (.inr ⟨{ cls := .type "list", data := .seq vs.toArray }, if_pos rfl⟩)) (fun b u z => ?_) at_ fun _ => hk
    · by_cases q : b = a
      · exact .inr ⟨_, _, if_pos q⟩
      · exact .inl (if_neg q)
    · have q : b = a := at_ b (by rw [show (if b = a then some (HO.frz { cls := .type "list", data := .seq vs.toArray } (.lst (ns.map V.int))) else none) = some u from z]; simp)
      have z' := (if_pos q).symm.trans z
      cases z'
      subst q
      exact ⟨ha, by rw [List.length_map]; omega, vs, _, rel, ha⟩
theorem walkG {l : PySem.W.OpenLaw} {n k : Nat} {q : Program} {loose : List Str} {XP : (Str → Option Value) → Heap → Prop} {YP : World → Heap → Prop} {d : DefRec} {K : Params → PySem.W.Frag} {x : Str} (hn : l.most = some n) (hz : n ≤ sizeLine) (hdf : d.params.defaults = []) (hr : Room k callerA)
    (hY : ∀ (w : World) (h : Heap), YP w h → (K w.params).In h)
    (F : ∀ (w : World) (mg : Str → Option Value) (fa : Addr) (h : Heap), (K w.params).In h → h.Ns mainGlobals mg → mg d.name = some (.ref fa) →
      ∃ fd : FuncData, (∀ (s : Shared) (u : Value), BindsTo s fd ⟨[u], []⟩ [(x, u)]) ∧ ∀ base : Heap, (K w.params).In base → base.Ns mainGlobals mg → FnG l.prog w (K w.params) mg base k fa fd [x] (lawC n)) :
    PySem.W.WalkO q loose XP YP l.row.toRowW d [] (fun f vs => PySem.call f vs) := by
  refine Att.attach_call hn hdf fun w s0 s1 mg mb fa o pm cd dc a vs ns G Y _ _ _ hmg hobj hints hlen hg => ?_
  have kx := hY w _ Y
  obtain ⟨fd, hb, hF⟩ := F w mg fa _ kx G.T.g hmg
  exact enter_law kx G.T.g G.T.b G.T.builtins G.T.nolimit hg hobj hints hlen hz hr hF hb
end Pv

/-! Help for the defs: facts of data, of the spring, loops by a word. -/
namespace Pv
open PySem L2 PySem.Spec PyProof.Rows
mutual
def D.nl : D → Bool
  | .tup xs => D.nls xs
  | .lst xs => D.nls xs
  | .loc _ => false
  | _ => true
def D.nls : List D → Bool
  | [] => true
  | x :: xs => x.nl && D.nls xs
end
theorem nls_iff : ∀ {xs : List D}, D.nls xs = true ↔ ∀ x ∈ xs, x.nl = true
  | [] => by simp [D.nls]
  | x :: xs => by simp [D.nls, nls_iff (xs := xs)]
theorem nl_tup {xs : List D} : (D.tup xs).nl = true ↔ ∀ x ∈ xs, x.nl = true := by
  rw [← nls_iff]
  simp [D.nl]
theorem nl_lst {xs : List D} : (D.lst xs).nl = true ↔ ∀ x ∈ xs, x.nl = true := by
  rw [← nls_iff]
  simp [D.nl]
def D.ty : D → String
  | .non => "NoneType" | .bl _ => "bool" | .int _ => "int" | .str _ => "str" | .tup _ => "tuple" | .lst _ => "list" | .emp => "dict" | .loc _ => "list"
theorem ty_nl {S : Store} {d : D} (h : d.nl = true) : tyN S d = some d.ty := by
  cases d <;> first | rfl | cases h
def D.isI : D → Bool
  | .int _ => true | _ => false
def D.isT : D → Bool
  | .tup _ => true | _ => false
def D.isS : D → Bool
  | .str _ => true | _ => false
theorem isi_int {d : D} {S : Store} {Q : QE} (h : d.nl = true) : isiD "int" d S Q = Q (.bl (isiB d.ty "int")) S := by
  unfold isiD
  rw [ty_nl h]
  simp
theorem isi_bool {d : D} {S : Store} {Q : QE} (h : d.nl = true) : isiD "bool" d S Q = Q (.bl (isiB d.ty "bool")) S := by
  unfold isiD
  rw [ty_nl h]
  simp
theorem isi_tuple {d : D} {S : Store} {Q : QE} (h : d.nl = true) : isiD "tuple" d S Q = Q (.bl d.isT) S := by
  unfold isiD
  rw [ty_nl h]
  cases d <;> simp [D.ty, isiB, D.isT]
theorem isi_str {d : D} {S : Store} {Q : QE} (h : d.nl = true) : isiD "str" d S Q = Q (.bl d.isS) S := by
  unfold isiD
  rw [ty_nl h]
  cases d <;> simp [D.ty, isiB, D.isS]
/-- int and not bool, as the program asks -/
theorem isi_ib {d : D} : (isiB d.ty "int" = true ∧ isiB d.ty "bool" = false) ↔ d.isI = true := by
  cases d <;> simp [D.ty, isiB, D.isI]
theorem addI {i j : Int} {S : Store} {Q : QE} : addD (.int i) (.int j) S Q = Q (.int (i + j)) S := rfl
theorem addT {a b : List D} {S : Store} {Q : QE} : addD (.tup a) (.tup b) S Q = (a.length + b.length ≤ sizeLine ∧ Q (.tup (a ++ b)) S) := rfl
theorem addS {a b : Str} {S : Store} {Q : QE} : addD (.str a) (.str b) S Q = (a.length + b.length ≤ sizeLine ∧ Q (.str (a ++ b)) S) := rfl
theorem addL {a b : List D} {S : Store} {Q : QE} : addD (.lst a) (.lst b) S Q ↔ (a.length + b.length ≤ sizeLine ∧ Q (.lst (a ++ b)) S) := by
  simp [addD, seqL]
theorem add_loc {p : Nat} {a b : List D} {S : Store} {Q : QE} (h : S[p]? = some (.lst a)) : addD (.loc p) (.lst b) S Q ↔ (a.length + b.length ≤ sizeLine ∧ Q (.lst (a ++ b)) S) := by
  simp [addD, seqL, h]
theorem ix_loc {p : Nat} {a : List D} {i : Int} {S : Store} {Q : QE} (h : S[p]? = some (.lst a)) : ixD (.loc p) (.int i) S Q ↔ ∃ x, atI a i = some x ∧ Q x S := by
  simp [ixD, seqX, seqL, dctL, h]
theorem ix_lst {a : List D} {i : Int} {S : Store} {Q : QE} : ixD (.lst a) (.int i) S Q ↔ ∃ x, atI a i = some x ∧ Q x S := by
  simp [ixD, seqX, seqL, dctL]
theorem ix_tup {a : List D} {i : Int} {S : Store} {Q : QE} : ixD (.tup a) (.int i) S Q ↔ ∃ x, atI a i = some x ∧ Q x S := by
  simp [ixD, seqX, seqL, dctL]
theorem len_lst {a : List D} {S : Store} {Q : QE} : lenD [.lst a] S Q ↔ Q (.int a.length) S := by
  simp [lenD, seqX, seqL]
theorem len_tup {a : List D} {S : Store} {Q : QE} : lenD [.tup a] S Q ↔ Q (.int a.length) S := by
  simp [lenD, seqX, seqL]
theorem int_int {i : Int} {S : Store} {Q : QE} : intC [.int i] S Q ↔ Q (.int i) S := by
  simp [intC]
theorem int_bl {b : Bool} {S : Store} {Q : QE} : intC [.bl b] S Q ↔ Q (.int (if b then 1 else 0)) S := by
  simp [intC]
theorem tup_tup {a : List D} {S : Store} {Q : QE} : tupleC [.tup a] S Q ↔ Q (.tup a) S := by
  simp [tupleC, seqX, seqL]
theorem tup_lst {a : List D} {S : Store} {Q : QE} : tupleC [.lst a] S Q ↔ Q (.tup a) S := by
  simp [tupleC, seqX, seqL]
theorem tup_loc {p : Nat} {a : List D} {S : Store} {Q : QE} (h : S[p]? = some (.lst a)) : tupleC [.loc p] S Q ↔ Q (.tup a) S := by
  simp [tupleC, seqX, seqL, h]
theorem list_tup {a : List D} {S : Store} {Q : QE} : listC true [.tup a] S Q ↔ Q (.lst a) S := by
  simp [listC, keyX, seqX, seqL]
theorem at_nat {α : Type} {xs : List α} {i : Int} {x : α} (h0 : 0 ≤ i) (h : xs[i.toNat]? = some x) : atI xs i = some x := by
  have hl : i.toNat < xs.length := by
    rcases Nat.lt_or_ge i.toNat xs.length with z | z
    · exact z
    · rw [List.getElem?_eq_none z] at h
      cases h
  unfold atI ixN
  rw [if_pos h0, if_pos (by omega)]
  exact h
theorem at_ex {α : Type} {xs : List α} {i : Int} (h0 : 0 ≤ i) (h : i < xs.length) : ∃ x, atI xs i = some x ∧ x ∈ xs := by
  have hl : i.toNat < xs.length := by omega
  exact ⟨xs[i.toNat], at_nat h0 (List.getElem?_eq_getElem hl), List.getElem_mem hl⟩
theorem at_mem {α : Type} {xs : List α} {i : Int} {x : α} (h : atI xs i = some x) : x ∈ xs := by
  unfold atI at h
  rw [Option.bind_eq_some_iff] at h
  obtain ⟨j, _, h⟩ := h
  exact List.mem_of_getElem? h
theorem tru_bl {S : Store} {b : Bool} : truD S (.bl b) = some b := rfl
theorem ex_cons {a : D} {l : List D} {P : D → List D → Prop} : (∃ d r, a :: l = d :: r ∧ P d r) ↔ P a l := by
  constructor
  · rintro ⟨d, r, e, h⟩
    cases e
    exact h
  · exact fun h => ⟨_, _, rfl, h⟩
theorem ex_two {a b : D} {P : D → D → Prop} : (∃ d e, [a, b] = [d, e] ∧ P d e) ↔ P a b := by
  constructor
  · rintro ⟨d, r, e, h⟩
    cases e
    exact h
  · exact fun h => ⟨_, _, rfl, h⟩
theorem ex_one {a : Int} {P : Int → Prop} : (∃ i, [D.int a] = [D.int i] ∧ P i) ↔ P a := by
  constructor
  · rintro ⟨d, e, h⟩
    cases e
    exact h
  · exact fun h => ⟨_, rfl, h⟩
theorem ex_ij {a b : Int} {P : Int → Int → Prop} : (∃ i j, D.int a = .int i ∧ D.int b = .int j ∧ P i j) ↔ P a b := by
  constructor
  · rintro ⟨d, r, e, e', h⟩
    cases e
    cases e'
    exact h
  · exact fun h => ⟨_, _, rfl, rfl, h⟩
theorem ex_i {a : Int} {P : Int → Prop} : (∃ i, D.int a = .int i ∧ P i) ↔ P a := by
  simp
theorem ex_bl {a : Bool} {P : Bool → Prop} : (∃ c, D.bl a = .bl c ∧ P c) ↔ P a := by
  simp
theorem ex_env {a : D} {P : D → Prop} : (∃ d, some (some a) = some (some d) ∧ P d) ↔ P a := by
  simp
theorem at3_0 {a b c : D} : atI [a, b, c] 0 = some a := rfl
theorem at3_1 {a b c : D} : atI [a, b, c] 1 = some b := rfl
theorem at3_2 {a b c : D} : atI [a, b, c] 2 = some c := rfl
theorem ix_s {p : Nat} {a : List D} {i : Int} {S : Store} {Q : QE} (h : p < S.length) : ixD (.loc p) (.int i) (S.set p (.lst a)) Q ↔ ∃ x, atI a i = some x ∧ Q x (S.set p (.lst a)) :=
  ix_loc (by simp [h])
theorem setD_iff {p : Nat} {xs : List D} {n : Int} {v : D} {S : Store} {Q : Store → Prop} (h : S[p]? = some (.lst xs)) : setD S (.loc p) (.int n) v Q ↔ ∃ j, ixN xs.length n = some j ∧ Q (S.set p (.lst (xs.set j v))) := by
  unfold setD
  constructor
  · rintro (⟨p', kvs, k, e1, h', e3, _⟩ | ⟨p', xs', n', j, e1, e2, h', e3, q⟩)
    · cases e1
      rw [h] at h'
      cases h'
    cases e1
    cases e2
    rw [h] at h'
    cases h'
    exact ⟨j, e3, q⟩
  · rintro ⟨j, e3, q⟩
    exact .inr ⟨p, xs, n, j, rfl, rfl, h, e3, q⟩
theorem ix_dct {p : Nat} {kvs : List (D × D)} {d e : D} {S : Store} {Q : QE} (h : S[p]? = some (.dct kvs)) (hg : dGet kvs d = some e) (q : Q e S) : ixD (.loc p) d S Q := .inl ⟨kvs, e, by simp [dctL, h], hg, q⟩
theorem in_dct {p : Nat} {kvs : List (D × D)} {d : D} {k : NestedKey} {neg : Bool} {S : Store} {Q : QE} (h : S[p]? = some (.dct kvs)) (hk : nkey d = some k) (q : Q (.bl ((dGet kvs d).isSome != neg)) S) : inD neg d (.loc p) S Q := .inr ⟨kvs, k, by simp [dctL, h], hk, q⟩
theorem set_dct {p : Nat} {kvs : List (D × D)} {d e : D} {k : NestedKey} {S : Store} {Q : Store → Prop} (h : S[p]? = some (.dct kvs)) (hk : nkey d = some k) (hl : kvs.length < sizeLine) (q : Q (S.set p (.dct (dPut kvs d e)))) : setD S (.loc p) d e Q := .inl ⟨p, kvs, k, rfl, h, hk, hl, q⟩
theorem pop_at {p : Nat} {xs : List D} {y : D} {S : Store} {Q : QE} (h : S[p]? = some (.lst (xs ++ [y]))) (q : Q y (S.set p (.lst xs))) : popD (.loc p) [] S Q := ⟨p, xs, y, rfl, rfl, h, q⟩
theorem ext_iff {p : Nat} {xs ys : List D} {S : Store} {Q : QE} (h : S[p]? = some (.lst xs)) : extD (.loc p) [.lst ys] S Q ↔ (xs.length + ys.length ≤ sizeLine ∧ Q .non (S.set p (.lst (xs ++ ys)))) := by
  unfold extD
  constructor
  · rintro ⟨p', xs', ys', e1, e2, h', e3, q⟩
    cases e1
    cases e2
    rw [h] at h'
    cases h'
    exact ⟨e3, q⟩
  · rintro ⟨j, e3⟩
    exact ⟨p, xs, ys, rfl, rfl, h, j, e3⟩
theorem set0 {p : Nat} {a b c v : D} {S : Store} {Q : Store → Prop} (h : S[p]? = some (.lst [a, b, c])) : setD S (.loc p) (.int 0) v Q ↔ Q (S.set p (.lst [v, b, c])) := by
  rw [setD_iff h]
  simp [ixN]
theorem set1 {p : Nat} {a b c v : D} {S : Store} {Q : Store → Prop} (h : S[p]? = some (.lst [a, b, c])) : setD S (.loc p) (.int 1) v Q ↔ Q (S.set p (.lst [a, v, c])) := by
  rw [setD_iff h]
  simp [ixN]
theorem set2 {p : Nat} {a b c v : D} {S : Store} {Q : Store → Prop} (h : S[p]? = some (.lst [a, b, c])) : setD S (.loc p) (.int 2) v Q ↔ Q (S.set p (.lst [a, b, v])) := by
  rw [setD_iff h]
  simp [ixN]
theorem set1s {p : Nat} {a b c v : D} {S : Store} {Q : Store → Prop} (h : p < S.length) : setD (S.set p (.lst [a, b, c])) (.loc p) (.int 1) v Q ↔ Q (S.set p (.lst [a, v, c])) := by
  rw [set1 (a := a) (b := b) (c := c) (by simp [h]), List.set_set]
theorem app_iff {p : Nat} {xs : List D} {y : D} {S : Store} {Q : QE} (h : S[p]? = some (.lst xs)) : appD (.loc p) [y] S Q ↔ (xs.length < sizeLine ∧ Q .non (S.set p (.lst (xs ++ [y])))) := by
  unfold appD
  constructor
  · rintro ⟨p', xs', n', e1, e2, h', e3, q⟩
    cases e1
    cases e2
    rw [h] at h'
    cases h'
    exact ⟨e3, q⟩
  · rintro ⟨j, e3⟩
    exact ⟨p, xs, y, rfl, rfl, h, j, e3⟩
theorem seq_loc {p : Nat} {xs : List D} {S : Store} (h : S[p]? = some (.lst xs)) : seqL S (.loc p) = some xs := by
  simp [seqL, h]
theorem seqx_tup {xs : List D} {S : Store} : seqX S (.tup xs) = some xs := rfl
theorem seqx_lst {xs : List D} {S : Store} : seqX S (.lst xs) = some xs := rfl
theorem sz : 1000 ≤ sizeLine := by
  rw [sizeLine_eq]
  decide
theorem sz_true {k : Nat} (h : k ≤ 1000) : (k ≤ sizeLine) = True := eq_true (Nat.le_trans h sz)
theorem eq_int {i j : Int} {neg : Bool} {S : Store} {Q : QE} : eqD neg (.int i) (.int j) S Q ↔ Q (.bl ((i == j) != neg)) S := by
  unfold eqD
  constructor
  · rintro (⟨xs, e, _⟩ | ⟨a, b, ha, hb, _, _, q⟩)
    · cases e
    · cases ha
      cases hb
      exact q
  · exact fun q => .inr ⟨_, _, rfl, rfl, rfl, rfl, q⟩
theorem eq_str {i j : Str} {neg : Bool} {S : Store} {Q : QE} (hi : SeqAt.shaped (.str i) = true) (hj : SeqAt.shaped (.str j) = true) (q : Q (.bl ((i == j) != neg)) S) : eqD neg (.str i) (.str j) S Q :=
  .inr ⟨_, _, rfl, rfl, hi, hj, q⟩
mutual
/-- what a text without names is worth -/
def evC : E → Option D
  | .non => some .non
  | .bl b => some (.bl b)
  | .int i => some (.int i)
  | .str x => some (.str x)
  | .emp => some .emp
  | .neg (.int i) => some (.int (-i))
  | .bin .pow (.int i) (.int j) => if 0 ≤ j ∧ j ≤ 1000000 ∧ i.natAbs < 2 ^ 64 then some (.int (i ^ j.toNat)) else none
  | .tup es => match evCs es with
    | some ds => if ds.length ≤ 1000 then some (.tup ds) else none
    | none => none
  | .lst es => match evCs es with
    | some ds => if ds.length ≤ 1000 then some (.lst ds) else none
    | none => none
  | _ => none
def evCs : Es → Option (List D)
  | .nil => some []
  | .cons e es => match evC e with
    | some d => (evCs es).map fun ds => d :: ds
    | none => none
end
mutual
theorem lit {Γ : Gm} : ∀ {e : E} {d : D}, evC e = some d → ∀ {ρ S} {Q : QE}, Q d S → (wP Γ e).1 ρ S Q
  | e, d, h, ρ, S, Q, q => by
    unfold evC at h
    split at h
    · cases h; exact q
    · cases h; exact q
    · cases h; exact q
    · cases h; exact q
    · cases h; exact q
    · cases h
      exact ⟨_, rfl, q⟩
    · split at h
      · rename_i i j hc
        cases h
        exact ⟨i, j, rfl, rfl, hc, q⟩
      · cases h
    · rename_i es
      split at h
      · rename_i ds e
        split at h
        · rename_i hl
          cases h
          exact lits e ⟨Nat.le_trans hl sz, q⟩
        · cases h
      · cases h
    · rename_i es
      split at h
      · rename_i ds e
        split at h
        · rename_i hl
          cases h
          exact lits e ⟨Nat.le_trans hl sz, q⟩
        · cases h
      · cases h
    · cases h
theorem lits {Γ : Gm} : ∀ {es : Es} {ds : List D}, evCs es = some ds → ∀ {ρ S} {Q : QA}, Q ds S → wEs Γ es ρ S Q
  | .nil, ds, h, ρ, S, Q, q => by
    cases h
    exact q
  | .cons e es, ds, h, ρ, S, Q, q => by
    unfold evCs at h
    split at h
    · rename_i d hd
      rw [Option.map_eq_some_iff] at h
      obtain ⟨r, hr, rfl⟩ := h
      exact lit hd (lits hr q)
    · cases h
end
theorem eq_tup0 {xs : List D} {neg : Bool} {S : Store} {Q : QE} (q : Q (.bl (xs.isEmpty != neg)) S) : eqD neg (.tup xs) (.tup []) S Q := .inl ⟨xs, rfl, q⟩
theorem eq_lst0 {d : D} {xs : List D} {neg : Bool} {S : Store} {Q : QE} (h : seqL S d = some xs) (q : Q (.bl (xs.isEmpty != neg)) S) : eqD neg d (.lst []) S Q := .inl ⟨xs, h, q⟩
theorem lf1 {l : Lf} : [l].map Lf.d = [l.d] := rfl
theorem szM : 16000000 ≤ sizeLine := by
  rw [sizeLine_eq]
  decide
/-- the spring: three ints in a list of the store -/
def Spr (S : Store) (p : Nat) : Prop := ∃ g m n : Int, S[p]? = some (.lst [.int g, .int m, .int n]) ∧ 0 ≤ g ∧ 0 ≤ m ∧ m < 2305843009213693951
/-- the spring has been drawn from, all else stands -/
structure Dr (p : Nat) (S S' : Store) : Prop where
  spr : Spr S' p
  len : S.length ≤ S'.length
  rest : ∀ q, q ≠ p → q < S.length → S'[q]? = S[q]?
theorem Spr.lt {S : Store} {p : Nat} (h : Spr S p) : p < S.length := by
  obtain ⟨g, m, n, h, _⟩ := h
  rcases Nat.lt_or_ge p S.length with z | z
  · exact z
  · rw [List.getElem?_eq_none z] at h
    cases h
theorem Dr.refl {p : Nat} {S : Store} (h : Spr S p) : Dr p S S := ⟨h, Nat.le_refl _, fun _ _ _ => rfl⟩
theorem Dr.trans {p : Nat} {S S' S'' : Store} (h : Dr p S S') (g : Dr p S' S'') : Dr p S S'' :=
  ⟨g.spr, Nat.le_trans h.len g.len, fun q n l => (g.rest q n (Nat.lt_of_lt_of_le l h.len)).trans (h.rest q n l)⟩
/-- a new place, and what stood there changes -/
theorem Dr.new {p : Nat} {S S' : Store} {o : Ob} (h : Dr p S S') : Dr p S (S' ++ [o]) := by
  have hp := h.spr.lt
  refine ⟨?_, by rw [List.length_append]; have := h.len; omega, fun q n l => ?_⟩
  · obtain ⟨g, m, k, e, r⟩ := h.spr
    exact ⟨g, m, k, by rw [List.getElem?_append_left hp]; exact e, r⟩
  · rw [List.getElem?_append_left (Nat.lt_of_lt_of_le l h.len)]
    exact h.rest q n l
theorem Dr.put {p q : Nat} {S S' : Store} {o : Ob} (h : Dr p S S') (ne : q ≠ p) (hq : S.length ≤ q) : Dr p S (S'.set q o) := by
  refine ⟨?_, by rw [List.length_set]; exact h.len, fun r n l => ?_⟩
  · obtain ⟨g, m, k, e, r⟩ := h.spr
    exact ⟨g, m, k, by rw [List.getElem?_set_ne ne]; exact e, r⟩
  · rw [List.getElem?_set_ne (by omega)]
    exact h.rest r n l
/-- a loop by a word -/
theorem forL_of {g : WG} {tb : WS} {src : Store → Option (List D)} {all : List D} {E : En} {I : List D → Env → Store → Prop} (h0 : ∀ ρ S, I [] ρ S → E.nx ρ S)
    (h1 : ∀ x xs ρ S (N : Env → Store → Prop), I (x :: xs) ρ S → (∀ ρ2 S2, src S2 = some all → I xs ρ2 S2 → N ρ2 S2) → g x ρ S fun ρ1 S1 => tb ρ1 S1 { rt := E.rt, bk := E.nx, nx := N, ct := N }) : ∀ l ρ S, I l ρ S → forL g tb src all l ρ S E
  | [], ρ, S, h => h0 ρ S h
  | x :: xs, ρ, S, h => h1 x xs ρ S _ h fun ρ2 S2 e i => ⟨e, forL_of h0 h1 xs ρ2 S2 i⟩
theorem compL_of {j : Nat} {te : WE} {src : Store → Option (List D)} {all : List D} {ρ : Env} {Q : QA} {I : List D → Store → List D → Prop} (h0 : ∀ S acc, I [] S acc → Q acc S)
    (h1 : ∀ x xs S acc (N : QE), I (x :: xs) S acc → (∀ y S2, src S2 = some all → I xs S2 (acc ++ [y]) → N y S2) → te (ρ.set j (some x)) S N) : ∀ l S acc, I l S acc → compL j (fun _ S Q => Q true S) te src all ρ l S acc Q
  | [], S, acc, h => h0 S acc h
  | x :: xs, S, acc, h => by
    unfold compL
    show if true = true then _ else _
    rw [if_pos rfl]
    exact h1 x xs S acc _ h fun y S2 e i => ⟨e, compL_of h0 h1 xs S2 _ i⟩
theorem rngD_len (lo : Int) (n : Nat) : (rngD lo n).length = n := by
  unfold rngD
  simp
theorem rngD_mem {lo : Int} {n : Nat} {x : D} (h : x ∈ rngD lo n) : ∃ i : Int, x = .int i ∧ lo ≤ i ∧ i < lo + n := by
  unfold rngD at h
  rw [List.mem_map] at h
  obtain ⟨i, hi, rfl⟩ := h
  rw [List.mem_range] at hi
  exact ⟨_, rfl, by omega, by omega⟩
/-- contracts of the drawing defs -/
def dipC : OL := fun ds S Q => ∃ p n, ds = [.loc p, .int n] ∧ 0 < n ∧ n < 1073741824 ∧ Spr S p ∧ ∀ k S', 0 ≤ k → k < n → Dr p S S' → Q (.int k) S'
def pickC : OL := fun ds S Q => ∃ p xs, ds = [.loc p, .lst xs] ∧ xs ≠ [] ∧ xs.length < 1073741824 ∧ Spr S p ∧ ∀ d S', d ∈ xs → Dr p S S' → Q d S'
theorem dipC_iff {p : Nat} {n : Int} {S : Store} {Q : QE} : dipC [.loc p, .int n] S Q ↔ (0 < n ∧ n < 1073741824 ∧ Spr S p ∧ ∀ k S', 0 ≤ k → k < n → Dr p S S' → Q (.int k) S') := by
  unfold dipC
  constructor
  · rintro ⟨p', n', e, h⟩
    cases e
    exact h
  · exact fun h => ⟨_, _, rfl, h⟩
theorem pickC_iff {p : Nat} {xs : List D} {S : Store} {Q : QE} : pickC [.loc p, .lst xs] S Q ↔ (xs ≠ [] ∧ xs.length < 1073741824 ∧ Spr S p ∧ ∀ d S', d ∈ xs → Dr p S S' → Q d S') := by
  unfold pickC
  constructor
  · rintro ⟨p', n', e, h⟩
    cases e
    exact h
  · exact fun h => ⟨_, _, rfl, h⟩
def NI (d : D) : Prop := d = .non ∨ ∃ i, d = .int i
/-- a range: two bounds, each None or an int -/
def rangeC : OL := fun ds S Q => ∃ p, ds = [.loc p] ∧ Spr S p ∧ ∀ a b S', NI a → NI b → Dr p S S' → Q (.tup [a, b]) S'
def anyC : OL := fun ds S Q => ∃ p, ds = [.loc p] ∧ Spr S p ∧ ∀ d S', d.nl = true → Dr p S S' → Q d S'
def rowC : OL := fun ds S Q => ∃ p n, ds = [.loc p, .int n] ∧ 0 < n ∧ n < 1000 ∧ Spr S p ∧ ∀ d S', d.nl = true → Dr p S S' → Q d S'
def intsC : OL := fun ds S Q => ∃ p, ds = [.loc p] ∧ Spr S p ∧ ∀ (i : Int) S', Dr p S S' → Q (.int i) S'
def D.isB : D → Bool
  | .bl _ => true | _ => false
theorem isi_int' {d : D} {S : Store} {Q : QE} (h : d.nl = true) : isiD "int" d S Q = Q (.bl (d.isI || d.isB)) S := by
  rw [isi_int h]
  cases d <;> simp [D.ty, isiB, D.isI, D.isB]
theorem isi_bool' {d : D} {S : Store} {Q : QE} (h : d.nl = true) : isiD "bool" d S Q = Q (.bl d.isB) S := by
  rw [isi_bool h]
  cases d <;> simp [D.ty, isiB, D.isB]
/-- a statement ahead of others -/
theorem seq_gen {Γ : Gm} {c c' : C} {cs : Cs} {ρ : Env} {S : Store} {E : En} (h : ∀ N : Env → Store → Prop, (∀ ρ' S', wSs Γ (.cons c' cs) ρ' S' E → N ρ' S') → wSt Γ c ρ S { rt := E.rt, nx := N, bk := E.bk, ct := E.ct }) : wSs Γ (.cons c (.cons c' cs)) ρ S E :=
  h _ fun _ _ h => h
theorem for_step {Γ : Gm} {t : T} {it : Iw} {b : Cs} {ρ : Env} {S : Store} {E : En} (h : ∀ B, B = wSs Γ b → wIt Γ it ρ S fun src all S1 => forL (wT t) B src all all ρ S1 E) : wSt Γ (.for_ t it b) ρ S E := h _ rfl
theorem seq_one {Γ : Gm} {c : C} {ρ : Env} {S : Store} {E : En} (h : wSt Γ c ρ S E) : wSs Γ (.cons c .nil) ρ S E := h
structure Ext (S S' : Store) : Prop where
  len : S.length ≤ S'.length
  rest : ∀ q, q < S.length → S'[q]? = S[q]?
theorem Ext.refl (S : Store) : Ext S S := ⟨Nat.le_refl _, fun _ _ => rfl⟩
theorem Ext.new {S S' : Store} {o : Ob} (h : Ext S S') : Ext S (S' ++ [o]) :=
  ⟨by rw [List.length_append]; have := h.len; omega, fun q l => by rw [List.getElem?_append_left (Nat.lt_of_lt_of_le l h.len)]; exact h.rest q l⟩
theorem Ext.put {q : Nat} {S S' : Store} {o : Ob} (h : Ext S S') (hq : S.length ≤ q) : Ext S (S'.set q o) :=
  ⟨by rw [List.length_set]; exact h.len, fun r l => by rw [List.getElem?_set_ne (by omega)]; exact h.rest r l⟩
theorem Dr.ext {p : Nat} {S S' S'' : Store} (h : Dr p S S') (g : Ext S' S'') : Dr p S S'' := by
  have hp := h.spr.lt
  refine ⟨?_, Nat.le_trans h.len g.len, fun q n l => (g.rest q (Nat.lt_of_lt_of_le l h.len)).trans (h.rest q n l)⟩
  obtain ⟨a, b, c, e, r⟩ := h.spr
  exact ⟨a, b, c, (g.rest p hp).trans e, r⟩
def windowC : OL := fun ds S Q => ∃ n, ds = [.int n] ∧ ∀ rs, rs.length = 1 → Q (.tup rs) S
def pairedC : OL := fun ds S Q => ∃ a b n, ds = [.int a, .int b, .int n] ∧ 0 ≤ n ∧ n ≤ 900 ∧ ∀ rs S', Ext S S' → (rs.length : Int) = n → Q (.tup rs) S'
def receiverC : OL := fun ds S Q => ∃ p s r, ds = [.loc p, .int s, .int r] ∧ 1 ≤ s ∧ s ≤ 100 ∧ 0 ≤ r ∧ r ≤ 100 ∧ Spr S p ∧ ∀ rs S', 1 ≤ rs.length → rs.length ≤ 100 → Dr p S S' → Q (.tup rs) S'
/-- small at its top -/
def Sm (d : D) : Prop := (∀ xs, d = .tup xs → xs.length ≤ 400) ∧ ∀ z, d = .str z → z.length ≤ 400
def otherC : OL := fun ds S Q => ∃ p d, ds = [.loc p, d] ∧ d.nl = true ∧ Sm d ∧ Spr S p ∧ ∀ d' S', d'.nl = true → Dr p S S' → Q d' S'
def Sp : Nat → D → Prop
  | 0, d => d.nl = true ∧ Sm d ∧ ∀ x xs, d ≠ .tup (x :: xs)
  | n + 1, d => d.nl = true ∧ Sm d ∧ ∀ xs, d = .tup xs → ∀ x ∈ xs, Sp n x
def spoC : Nat → OL
  | 0 => noC
  | n + 1 => fun ds S Q => ∃ p d, ds = [.loc p, d] ∧ Sp n d ∧ Spr S p ∧ ∀ d' S', d'.nl = true → Dr p S S' → Q d' S'
def springC : OL := fun ds S Q => ∃ ns : List Int, ds = [.lst (ns.map D.int)] ∧ ∀ S', Spr S' S.length → Q (.loc S.length) S'
theorem anyC_iff {p : Nat} {S : Store} {Q : QE} : anyC [.loc p] S Q ↔ (Spr S p ∧ ∀ d S', d.nl = true → Dr p S S' → Q d S') :=
  ⟨fun ⟨_, e, h⟩ => by cases e; exact h, fun h => ⟨_, rfl, h⟩⟩
theorem intsC_iff {p : Nat} {S : Store} {Q : QE} : intsC [.loc p] S Q ↔ (Spr S p ∧ ∀ (i : Int) S', Dr p S S' → Q (.int i) S') :=
  ⟨fun ⟨_, e, h⟩ => by cases e; exact h, fun h => ⟨_, rfl, h⟩⟩
theorem rangeC_iff {p : Nat} {S : Store} {Q : QE} : rangeC [.loc p] S Q ↔ (Spr S p ∧ ∀ a b S', NI a → NI b → Dr p S S' → Q (.tup [a, b]) S') :=
  ⟨fun ⟨_, e, h⟩ => by cases e; exact h, fun h => ⟨_, rfl, h⟩⟩
theorem rowC_iff {p : Nat} {n : Int} {S : Store} {Q : QE} : rowC [.loc p, .int n] S Q ↔ (0 < n ∧ n < 1000 ∧ Spr S p ∧ ∀ d S', d.nl = true → Dr p S S' → Q d S') :=
  ⟨fun ⟨_, _, e, h⟩ => by cases e; exact h, fun h => ⟨_, _, rfl, h⟩⟩
theorem windowC_iff {n : Int} {S : Store} {Q : QE} : windowC [.int n] S Q ↔ ∀ rs, rs.length = 1 → Q (.tup rs) S :=
  ⟨fun ⟨_, e, h⟩ => by cases e; exact h, fun h => ⟨_, rfl, h⟩⟩
theorem pairedC_iff {a b n : Int} {S : Store} {Q : QE} : pairedC [.int a, .int b, .int n] S Q ↔ (0 ≤ n ∧ n ≤ 900 ∧ ∀ rs S', Ext S S' → (rs.length : Int) = n → Q (.tup rs) S') :=
  ⟨fun ⟨_, _, _, e, h⟩ => by cases e; exact h, fun h => ⟨_, _, _, rfl, h⟩⟩
theorem receiverC_iff {p : Nat} {s r : Int} {S : Store} {Q : QE} : receiverC [.loc p, .int s, .int r] S Q ↔ (1 ≤ s ∧ s ≤ 100 ∧ 0 ≤ r ∧ r ≤ 100 ∧ Spr S p ∧ ∀ rs S', 1 ≤ rs.length → rs.length ≤ 100 → Dr p S S' → Q (.tup rs) S') :=
  ⟨fun ⟨_, _, _, e, h⟩ => by cases e; exact h, fun h => ⟨_, _, _, rfl, h⟩⟩
theorem otherC_iff {p : Nat} {d : D} {S : Store} {Q : QE} : otherC [.loc p, d] S Q ↔ (d.nl = true ∧ Sm d ∧ Spr S p ∧ ∀ d' S', d'.nl = true → Dr p S S' → Q d' S') :=
  ⟨fun ⟨_, _, e, h⟩ => by cases e; exact h, fun h => ⟨_, _, rfl, h⟩⟩
theorem spoC_iff {n p : Nat} {d : D} {S : Store} {Q : QE} : spoC (n + 1) [.loc p, d] S Q ↔ (Sp n d ∧ Spr S p ∧ ∀ d' S', d'.nl = true → Dr p S S' → Q d' S') :=
  ⟨fun ⟨_, _, e, h⟩ => by cases e; exact h, fun h => ⟨_, _, rfl, h⟩⟩
theorem in_ni {a b : D} {S : Store} {Q : QE} (ha : NI a) (hb : NI b) (q : ∀ c, Q (.bl c) S) : inD false .non (.tup [a, b]) S Q := by
  have f : ∀ d, NI d → ∃ x, py d = some x ∧ PyData.canLay0 x = true := by
    rintro d (rfl | ⟨i, rfl⟩)
    · exact ⟨_, rfl, rfl⟩
    · exact ⟨_, rfl, rfl⟩
  obtain ⟨x, hx, cx⟩ := f a ha
  obtain ⟨y, hy, cy⟩ := f b hb
  refine .inl ⟨[a, b], .none, [x, y], rfl, rfl, by simp [pys, hx, hy], by decide, ?_, q _⟩
  simp [PyData.canLayAll0, cx, cy]
theorem NI.nl {d : D} (h : NI d) : d.nl = true := by
  rcases h with rfl | ⟨i, rfl⟩ <;> rfl
theorem one_iff {C : OL} {r : Nat} {ds : List D} {S : Store} {Q : QE} (h : one C (r + 1) ds S Q) : C ds S Q := h
end Pv

/-! The bodies of the defs, each once; its callees and globals are parameters. -/
namespace Pv
open PySem L2 PySem.Spec PyProof.Rows
def n_p_lies_in : List Str := ["number", "limits", "low", "high"]
def a_p_lies_in : List Str := ["number", "limits"]
def b_p_lies_in : Cs := (.cons (.set (.tp (.cons (.nm 2) (.cons (.nm 3) .nil))) (.var 1)) (.cons (.ret (.an (.cons (.or (.cons (.cmp .is_ (.var 2) .non) (.cons (.cmp .le (.var 2) (.var 0)) .nil))) (.cons (.or (.cons (.cmp .is_ (.var 3) .non) (.cons (.cmp .le (.var 0) (.var 3)) .nil))) .nil)))) .nil))
def n_p_rest_of : List Str := ["stand", "state", "last", "kept"]
def a_p_rest_of : List Str := ["stand"]
def b_p_rest_of : Cs := (.cons (.set (.tp (.cons (.nm 1) (.cons (.nm 2) (.cons (.nm 3) .nil)))) (.var 0)) (.cons (.ife (.cmp .is_ (.var 3) .non) (.cons (.ret (.tup (.cons (.var 1) .nil))) .nil) .nil) (.cons (.ret (.tup (.cons (.var 1) (.cons (.bin .sub (.var 3) (.var 2)) .nil)))) .nil)))
def n_p__comes_after : List Str := ["rest", "step", "after"]
def a_p__comes_after : List Str := ["rest", "step", "after"]
def b_p__comes_after (i_p_lies_in : Nat) : Cs := (.cons (.ife (.cmp .is_ (.var 2) .non) (.cons (.ret (.bl true)) .nil) .nil) (.cons (.ret (.an (.cons (.cmp .eq (.blt .len (.cons (.var 0) .nil)) (.int 2)) (.cons (.call i_p_lies_in (.cons (.bin .sub (.var 1) (.ix (.var 0) (.int 1))) (.cons (.var 2) .nil))) .nil)))) .nil))
def n_p_counting_row : List Str := ["receiver", "rest", "step", "at", "row"]
def a_p_counting_row : List Str := ["receiver", "rest", "step"]
def b_p_counting_row (i_p_lies_in i_p__comes_after : Nat) : Cs := (.cons (.for_ (.tp (.cons (.nm 3) (.cons (.nm 4) .nil))) (.en (.ix (.var 0) (.ix (.var 1) (.int 0)))) (.cons (.ife (.an (.cons (.call i_p_lies_in (.cons (.var 2) (.cons (.ix (.var 4) (.int 0)) .nil))) (.cons (.call i_p__comes_after (.cons (.var 1) (.cons (.var 2) (.cons (.ix (.var 4) (.int 1)) .nil)))) .nil))) (.cons (.ret (.var 3)) .nil) .nil) .nil)) (.cons (.ret .non) .nil))
def n_p__deed_done : List Str := ["row", "rest", "step", "deed", "to_state"]
def a_p__deed_done : List Str := ["row", "rest", "step"]
def b_p__deed_done : Cs := (.cons (.set (.nm 3) (.ix (.var 0) (.int 2))) (.cons (.set (.nm 4) (.ix (.var 0) (.int 3))) (.cons (.ife (.cmp .eq (.var 3) (.str "take")) (.cons (.ret (.tup (.cons (.bl true) (.cons (.tup (.cons (.var 4) .nil)) .nil)))) .nil) .nil) (.cons (.ife (.cmp .eq (.var 3) (.str "keep")) (.cons (.ret (.tup (.cons (.bl false) (.cons (.tup (.cons (.var 4) (.cons (.var 2) .nil))) .nil)))) .nil) .nil) (.cons (.ife (.cmp .eq (.var 3) (.str "leave")) (.cons (.ret (.tup (.cons (.bl false) (.cons (.bin .add (.tup (.cons (.var 4) .nil)) (.sl (.var 1) (.so (.int 1)) .no)) .nil)))) .nil) .nil) (.cons (.ret (.tup (.cons (.bl false) (.cons (.tup (.cons (.var 4) .nil)) .nil)))) .nil))))))
def n_p_step_from : List Str := ["receiver", "rest", "step", "at"]
def a_p_step_from : List Str := ["receiver", "rest", "step"]
def b_p_step_from (i_p_counting_row i_p__deed_done : Nat) : Cs := (.cons (.set (.nm 3) (.call i_p_counting_row (.cons (.var 0) (.cons (.var 1) (.cons (.var 2) .nil))))) (.cons (.ife (.cmp .is_ (.var 3) .non) (.cons (.ret (.tup (.cons (.bl false) (.cons (.var 1) .nil)))) .nil) .nil) (.cons (.ret (.call i_p__deed_done (.cons (.ix (.ix (.var 0) (.ix (.var 1) (.int 0))) (.var 3)) (.cons (.var 1) (.cons (.var 2) .nil))))) .nil)))
def n_p__stand_at : List Str := ["rest", "last"]
def a_p__stand_at : List Str := ["rest", "last"]
def b_p__stand_at : Cs := (.cons (.ife (.cmp .eq (.blt .len (.cons (.var 0) .nil)) (.int 1)) (.cons (.ret (.tup (.cons (.ix (.var 0) (.int 0)) (.cons (.var 1) (.cons .non .nil))))) .nil) .nil) (.cons (.ret (.tup (.cons (.ix (.var 0) (.int 0)) (.cons (.var 1) (.cons (.bin .add (.var 1) (.ix (.var 0) (.int 1))) .nil))))) .nil))
def n_p_hear : List Str := ["receiver", "stand", "number", "last", "taken", "rest"]
def a_p_hear : List Str := ["receiver", "stand", "number"]
def b_p_hear (i_p_rest_of i_p_step_from i_p__stand_at : Nat) : Cs := (.cons (.set (.nm 3) (.ix (.var 1) (.int 1))) (.cons (.set (.tp (.cons (.nm 4) (.cons (.nm 5) .nil))) (.call i_p_step_from (.cons (.var 0) (.cons (.call i_p_rest_of (.cons (.var 1) .nil)) (.cons (.bin .sub (.var 2) (.var 3)) .nil))))) (.cons (.ife (.var 4) (.cons (.set (.nm 3) (.var 2)) .nil) .nil) (.cons (.ret (.tup (.cons (.var 4) (.cons (.call i_p__stand_at (.cons (.var 5) (.cons (.var 3) .nil))) .nil)))) .nil))))
def n_spring : List Str := ["_law_script", "_law_cell", "_law_great", "_law_mixed", "_law_more"]
def a_spring : List Str := ["_law_script"]
def b_spring : Cs := (.cons (.set (.tp (.cons (.nm 2) (.cons (.nm 3) .nil))) (.tup (.cons (.int 0) (.cons (.int 2925) .nil)))) (.cons (.for_ (.nm 1) (.seq (.sl (.var 0) .no (.so (.int 63)))) (.cons (.set (.nm 4) (.bin .add (.bin .add (.bin .mul (.int 2) (.blt .abs (.cons (.var 1) .nil))) (.bty .int (.cons (.cmp .lt (.var 1) (.int 0)) .nil))) (.int 1))) (.cons (.set (.nm 3) (.bin .mod (.bty .int (.cons (.bin .add (.bin .mul (.var 3) (.int 6364136223846793005)) (.var 4)) .nil)) (.int 2305843009213693951))) (.cons (.ife (.cmp .ge (.blt .abs (.cons (.var 1) .nil)) (.bin .pow (.int 10) (.int 18))) (.cons (.set (.nm 2) (.bin .add (.bin .mul (.var 2) (.int 37)) (.blt .abs (.cons (.var 1) .nil)))) .nil) .nil) .nil)))) (.cons (.ret (.new (.cons (.var 2) (.cons (.var 3) (.cons (.int 0) .nil))))) .nil)))
def n_dip : List Str := ["_law_spring_here", "_law_many", "_law_more", "_law_digit"]
def a_dip : List Str := ["_law_spring_here", "_law_many"]
def b_dip : Cs := (.cons (.ife (.cmp .gt (.ix (.var 0) (.int 0)) (.int 0)) (.cons (.set (.nm 3) (.bin .mod (.bty .int (.cons (.ix (.var 0) (.int 0)) .nil)) (.var 1))) (.cons (.put (.var 0) (.int 0) (.bin .fdiv (.ix (.var 0) (.int 0)) (.var 1))) (.cons (.ret (.var 3)) .nil))) .nil) (.cons (.put (.var 0) (.int 2) (.bin .add (.ix (.var 0) (.int 2)) (.int 1))) (.cons (.set (.nm 2) (.bin .add (.bin .mul (.int 3202034522624059733) (.ix (.var 0) (.int 2))) (.int 29))) (.cons (.put (.var 0) (.int 1) (.bin .mod (.bty .int (.cons (.bin .add (.bin .mul (.ix (.var 0) (.int 1)) (.int 2862933555777941757)) (.var 2)) .nil)) (.int 2305843009213693951))) (.cons (.ret (.bin .mod (.bty .int (.cons (.bin .fdiv (.bin .mod (.bty .int (.cons (.bin .mul (.ix (.var 0) (.int 1)) (.ix (.var 0) (.int 1))) .nil)) (.int 2305843009213693951)) (.int 131071)) .nil)) (.var 1))) .nil)))))
def n_pick : List Str := ["_law_spring_here", "_law_some"]
def a_pick : List Str := ["_law_spring_here", "_law_some"]
def b_pick (i_dip : Nat) : Cs := (.cons (.ret (.ix (.var 1) (.call i_dip (.cons (.var 0) (.cons (.blt .len (.cons (.var 1) .nil)) .nil))))) .nil)
def n_range : List Str := ["_law_spring_here", "_law_way", "_law_low"]
def a_range : List Str := ["_law_spring_here"]
def b_range (i_dip : Nat) : Cs := (.cons (.set (.nm 1) (.call i_dip (.cons (.var 0) (.cons (.int 9) .nil)))) (.cons (.set (.nm 2) (.ife (.cmp .lt (.var 1) (.int 6)) (.bin .sub (.call i_dip (.cons (.var 0) (.cons (.int 13) .nil))) (.int 6)) (.bin .add (.int 1) (.call i_dip (.cons (.var 0) (.cons (.int 6) .nil)))))) (.cons (.ife (.cmp .lt (.var 1) (.int 3)) (.cons (.ret (.ix (.lst (.cons (.tup (.cons .non (.cons (.var 2) .nil))) (.cons (.tup (.cons (.var 2) (.cons .non .nil))) (.cons (.tup (.cons .non (.cons .non .nil))) .nil)))) (.var 1))) .nil) .nil) (.cons (.ret (.tup (.cons (.var 2) (.cons (.bin .add (.var 2) (.call i_dip (.cons (.var 0) (.cons (.bin .sub (.int 7) (.var 2)) .nil)))) .nil)))) .nil))))
def n_row : List Str := ["_law_spring_here", "_law_many", "_law_deed", "_law_ahead", "_law_after"]
def a_row : List Str := ["_law_spring_here", "_law_many"]
def b_row (i_dip i_pick i_range : Nat) : Cs := (.cons (.par 3 4 (.call i_range (.cons (.var 0) .nil)) .non) (.cons (.ife (.cmp .eq (.call i_dip (.cons (.var 0) (.cons (.int 3) .nil))) (.int 0)) (.cons (.set (.nm 4) (.call i_pick (.cons (.var 0) (.cons (.lst (.cons (.tup (.cons (.int 1) (.cons (.int 1) .nil))) (.cons (.tup (.cons (.int 1) (.cons (.int 2) .nil))) (.cons (.tup (.cons (.int 0) (.cons (.int 0) .nil))) (.cons (.tup (.cons (.neg (.int 1)) (.cons (.int 1) .nil))) (.cons (.call i_range (.cons (.var 0) .nil)) .nil)))))) .nil)))) .nil) .nil) (.cons (.set (.nm 2) (.call i_pick (.cons (.var 0) (.cons (.lst (.cons (.str "take") (.cons (.str "take") (.cons (.str "keep") (.cons (.str "keep") (.cons (.str "leave") (.cons (.str "drop") .nil))))))) .nil)))) (.cons (.ife (.an (.cons (.cmp .eq (.var 2) (.str "keep")) (.cons (.cmp .in_ .non (.var 3)) .nil))) (.cons (.set (.nm 2) (.str "leave")) .nil) .nil) (.cons (.ret (.tup (.cons (.var 3) (.cons (.var 4) (.cons (.var 2) (.cons (.call i_dip (.cons (.var 0) (.cons (.var 1) .nil))) .nil)))))) .nil)))))
def n_window : List Str := ["_law_size"]
def a_window : List Str := ["_law_size"]
def b_window : Cs := (.cons (.ret (.tup (.cons (.tup (.cons (.tup (.cons (.tup (.cons (.int 1) (.cons (.var 0) .nil))) (.cons .non (.cons (.str "take") (.cons (.int 0) .nil))))) .nil)) .nil))) .nil)
def n_paired : List Str := ["_law_size", "_law_wide", "_law_times", "_law_k", "_law_zone", "_law_found", "_law_rows"]
def a_paired : List Str := ["_law_size", "_law_wide", "_law_times"]
def b_paired : Cs := (.cons (.par 4 5 (.tup (.cons (.bin .add (.var 0) (.int 1)) (.cons (.var 1) .nil))) (.new .nil)) (.cons (.for_ (.nm 3) (.r1 (.var 2)) (.cons (.set (.nm 6) (.new (.cons (.tup (.cons (.tup (.cons (.int 1) (.cons (.var 0) .nil))) (.cons .non (.cons (.str "take") (.cons (.int 0) .nil))))) .nil))) (.cons (.ife (.cmp .gt (.var 3) (.int 0)) (.cons (.ex (.app (.var 6) (.ife (.cmp .eq (.var 3) (.bin .sub (.var 2) (.int 1))) (.tup (.cons (.var 4) (.cons (.tup (.cons (.int 1) (.cons (.int 1) .nil))) (.cons (.str "take") (.cons (.int 0) .nil))))) (.tup (.cons (.var 4) (.cons (.tup (.cons (.int 1) (.cons (.int 1) .nil))) (.cons (.str "keep") (.cons (.bin .add (.var 3) (.int 1)) .nil)))))))) .nil) .nil) (.cons (.ex (.app (.var 5) (.bty .tuple (.cons (.bin .add (.var 6) (.lst (.cons (.tup (.cons (.var 4) (.cons .non (.cons (.str "keep") (.cons (.int 1) .nil))))) .nil))) .nil)))) .nil)))) (.cons (.ret (.bty .tuple (.cons (.var 5) .nil))) .nil)))
def n_receiver : List Str := ["_law_spring_here", "_law_states", "_law_rows", "_law_way", "_law_many", "_law_found", "_law_state", "_law_size", "_law_k"]
def a_receiver : List Str := ["_law_spring_here", "_law_states", "_law_rows"]
def b_receiver (i_dip i_row i_window i_paired : Nat) : Cs := (.cons (.set (.nm 3) (.call i_dip (.cons (.var 0) (.cons (.int 8) .nil)))) (.cons (.ife (.cmp .eq (.var 3) (.int 0)) (.cons (.ret (.call i_window (.cons (.bin .add (.int 1) (.call i_dip (.cons (.var 0) (.cons (.int 6) .nil)))) .nil))) .nil) .nil) (.cons (.ife (.an (.cons (.cmp .eq (.var 3) (.int 1)) (.cons (.cmp .gt (.var 1) (.int 1)) (.cons (.cmp .gt (.var 2) (.int 2)) .nil)))) (.cons (.set (.nm 7) (.bin .add (.int 1) (.call i_dip (.cons (.var 0) (.cons (.int 5) .nil))))) (.cons (.ret (.call i_paired (.cons (.var 7) (.cons (.bin .add (.bin .add (.var 7) (.int 1)) (.call i_dip (.cons (.var 0) (.cons (.bin .sub (.int 6) (.var 7)) .nil)))) (.cons (.bin .add (.int 2) (.call i_dip (.cons (.var 0) (.cons (.bin .sub (.var 1) (.int 1)) .nil)))) .nil))))) .nil)) .nil) (.cons (.set (.nm 4) (.bin .add (.int 1) (.call i_dip (.cons (.var 0) (.cons (.var 1) .nil))))) (.cons (.set (.nm 5) (.new .nil)) (.cons (.for_ (.nm 6) (.r1 (.var 4)) (.cons (.ex (.app (.var 5) (.bty .tuple (.cons (.comp (.r1 (.call i_dip (.cons (.var 0) (.cons (.bin .add (.var 2) (.int 1)) .nil)))) 8 .no (.call i_row (.cons (.var 0) (.cons (.var 4) .nil)))) .nil)))) .nil)) (.cons (.ret (.bty .tuple (.cons (.var 5) .nil))) .nil)))))))
def n_lies : List Str := ["_law_number", "_law_own"]
def a_lies : List Str := ["_law_number", "_law_own"]
def b_lies : Cs := (.cons (.ret (.an (.cons (.or (.cons (.cmp .is_ (.ix (.var 1) (.int 0)) .non) (.cons (.cmp .ge (.var 0) (.ix (.var 1) (.int 0))) .nil))) (.cons (.or (.cons (.cmp .is_ (.ix (.var 1) (.int 1)) .non) (.cons (.cmp .le (.var 0) (.ix (.var 1) (.int 1))) .nil))) .nil)))) .nil)
def n_counting : List Str := ["_law_receiver_here", "_law_rest_here", "_law_step_here", "_law_k", "_law_ahead", "_law_after"]
def a_counting : List Str := ["_law_receiver_here", "_law_rest_here", "_law_step_here"]
def b_counting (i_lies : Nat) : Cs := (.cons (.for_ (.nm 3) (.r1 (.blt .len (.cons (.ix (.var 0) (.ix (.var 1) (.int 0))) .nil))) (.cons (.set (.tp (.cons (.nm 4) (.cons (.nm 5) .nil))) (.sl (.ix (.ix (.var 0) (.ix (.var 1) (.int 0))) (.var 3)) .no (.so (.int 2)))) (.cons (.ife (.call i_lies (.cons (.var 2) (.cons (.var 4) .nil))) (.cons (.ife (.or (.cons (.cmp .is_ (.var 5) .non) (.cons (.an (.cons (.cmp .gt (.blt .len (.cons (.var 1) .nil)) (.int 1)) (.cons (.call i_lies (.cons (.bin .sub (.var 2) (.ix (.var 1) (.int 1))) (.cons (.var 5) .nil))) .nil))) .nil))) (.cons (.ret (.var 3)) .nil) .nil) .nil) .nil) .nil))) (.cons (.ret .non) .nil))
def n_step : List Str := ["_law_receiver_here", "_law_rest_here", "_law_step_here", "_law_k", "_law_deed", "_law_behind"]
def a_step : List Str := ["_law_receiver_here", "_law_rest_here", "_law_step_here"]
def b_step (i_counting : Nat) : Cs := (.cons (.set (.nm 3) (.call i_counting (.cons (.var 0) (.cons (.var 1) (.cons (.var 2) .nil))))) (.cons (.ife (.cmp .is_ (.var 3) .non) (.cons (.ret (.tup (.cons (.bl false) (.cons (.var 1) .nil)))) .nil) .nil) (.cons (.set (.tp (.cons (.nm 4) (.cons (.nm 5) .nil))) (.sl (.ix (.ix (.var 0) (.ix (.var 1) (.int 0))) (.var 3)) (.so (.int 2)) .no)) (.cons (.ife (.cmp .eq (.var 4) (.str "keep")) (.cons (.ret (.tup (.cons (.bl false) (.cons (.tup (.cons (.var 5) (.cons (.var 2) .nil))) .nil)))) .nil) .nil) (.cons (.ret (.tup (.cons (.cmp .eq (.var 4) (.str "take")) (.cons (.bin .add (.tup (.cons (.var 5) .nil)) (.ife (.cmp .eq (.var 4) (.str "leave")) (.sl (.var 1) (.so (.int 1)) .no) (.tup .nil))) .nil)))) .nil)))))
def n_rest : List Str := ["_law_stand"]
def a_rest : List Str := ["_law_stand"]
def b_rest : Cs := (.cons (.ret (.ife (.cmp .is_ (.ix (.var 0) (.int 2)) .non) (.tup (.cons (.ix (.var 0) (.int 0)) .nil)) (.tup (.cons (.ix (.var 0) (.int 0)) (.cons (.bin .sub (.ix (.var 0) (.int 2)) (.ix (.var 0) (.int 1))) .nil))))) .nil)
def n_heard : List Str := ["_law_receiver_here", "_law_stand", "_law_number", "_law_origin", "_law_taken", "_law_rest_here"]
def a_heard : List Str := ["_law_receiver_here", "_law_stand", "_law_number"]
def b_heard (i_step i_rest : Nat) : Cs := (.cons (.set (.tp (.cons (.nm 4) (.cons (.nm 5) .nil))) (.call i_step (.cons (.var 0) (.cons (.call i_rest (.cons (.var 1) .nil)) (.cons (.bin .sub (.var 2) (.ix (.var 1) (.int 1))) .nil))))) (.cons (.set (.nm 3) (.ife (.var 4) (.var 2) (.ix (.var 1) (.int 1)))) (.cons (.ret (.tup (.cons (.var 4) (.cons (.tup (.cons (.ix (.var 5) (.int 0)) (.cons (.var 3) (.cons (.ife (.cmp .eq (.blt .len (.cons (.var 5) .nil)) (.int 1)) .non (.bin .add (.var 3) (.ix (.var 5) (.int 1)))) .nil)))) .nil)))) .nil)))
def n_last : List Str := ["_law_spring_here"]
def a_last : List Str := ["_law_spring_here"]
def b_last (i_pick : Nat) : Cs := (.cons (.ret (.call i_pick (.cons (.var 0) (.cons (.lst (.cons (.int 0) (.cons (.int 0) (.cons (.int 7) (.cons (.neg (.int 3)) (.cons (.bin .pow (.int 10) (.int 30)) (.cons (.neg (.bin .pow (.int 10) (.int 30))) (.cons (.int 5) .nil)))))))) .nil)))) .nil)
def n_alike : List Str := ["_law_found", "_law_due", "_law_k"]
def a_alike : List Str := ["_law_found", "_law_due"]
def b_alike (self_ : Nat) : Cs := (.cons (.ife (.an (.cons (.isi "tuple" (.var 1)) (.cons (.isi "tuple" (.var 0)) (.cons (.cmp .eq (.blt .len (.cons (.var 0) .nil)) (.blt .len (.cons (.var 1) .nil))) .nil)))) (.cons (.ret (.cmp .ni (.bl false) (.comp (.r1 (.blt .len (.cons (.var 1) .nil))) 2 .no (.call self_ (.cons (.ix (.var 0) (.var 2)) (.cons (.ix (.var 1) (.var 2)) .nil)))))) .nil) .nil) (.cons (.ife (.or (.cons (.isi2 "bool" "tuple" (.var 1)) (.cons (.isi2 "bool" "tuple" (.var 0)) .nil))) (.cons (.ret (.an (.cons (.isi "bool" (.var 1)) (.cons (.isi "bool" (.var 0)) (.cons (.cmp .eq (.var 0) (.var 1)) .nil))))) .nil) .nil) (.cons (.ret (.or (.cons (.an (.cons (.cmp .is_ (.var 0) .non) (.cons (.cmp .is_ (.var 1) .non) .nil))) (.cons (.an (.cons (.isi2 "int" "str" (.var 0)) (.cons (.cmp .eq (.var 0) (.var 1)) .nil))) .nil)))) .nil)))
def n_moved : List Str := ["_law_stand", "_law_by"]
def a_moved : List Str := ["_law_stand", "_law_by"]
def b_moved : Cs := (.cons (.ret (.tup (.cons (.ix (.var 0) (.int 0)) (.cons (.bin .add (.ix (.var 0) (.int 1)) (.var 1)) (.cons (.ife (.cmp .is_ (.ix (.var 0) (.int 2)) .non) .non (.bin .add (.ix (.var 0) (.int 2)) (.var 1))) .nil))))) .nil)
def n_p_is_integer : List Str := ["value"]
def a_p_is_integer : List Str := ["value"]
def b_p_is_integer : Cs := (.cons (.ret (.an (.cons (.isi "int" (.var 0)) (.cons (.nt (.isi "bool" (.var 0))) .nil)))) .nil)
def n_p_is_index : List Str := ["value", "many"]
def a_p_is_index : List Str := ["value", "many"]
def b_p_is_index (i_p_is_integer : Nat) : Cs := (.cons (.ret (.an (.cons (.call i_p_is_integer (.cons (.var 0) .nil)) (.cons (.chn .le .lt (.int 0) (.var 0) (.var 1)) .nil)))) .nil)
def n_p_is_tuple : List Str := ["value", "fewest", "most"]
def a_p_is_tuple : List Str := ["value", "fewest", "most"]
def b_p_is_tuple : Cs := (.cons (.ret (.an (.cons (.isi "tuple" (.var 0)) (.cons (.chn .le .le (.var 1) (.blt .len (.cons (.var 0) .nil)) (.var 2)) .nil)))) .nil)
def n_p_is_stand : List Str := ["receiver", "value", "state", "last", "kept"]
def a_p_is_stand : List Str := ["receiver", "value"]
def b_p_is_stand (i_p_is_integer i_p_is_index i_p_is_tuple g_MAX_BOUND : Nat) : Cs := (.cons (.ife (.nt (.call i_p_is_tuple (.cons (.var 1) (.cons (.int 3) (.cons (.int 3) .nil))))) (.cons (.ret (.bl false)) .nil) .nil) (.cons (.set (.tp (.cons (.nm 2) (.cons (.nm 3) (.cons (.nm 4) .nil)))) (.var 1)) (.cons (.ife (.or (.cons (.nt (.call i_p_is_index (.cons (.var 2) (.cons (.blt .len (.cons (.var 0) .nil)) .nil)))) (.cons (.nt (.call i_p_is_integer (.cons (.var 3) .nil))) .nil))) (.cons (.ret (.bl false)) .nil) .nil) (.cons (.ret (.or (.cons (.cmp .is_ (.var 4) .non) (.cons (.an (.cons (.call i_p_is_integer (.cons (.var 4) .nil)) (.cons (.cmp .le (.blt .abs (.cons (.bin .sub (.var 4) (.var 3)) .nil)) (.glb g_MAX_BOUND)) .nil))) .nil)))) .nil))))
def n_odd : List Str := ["_law_spring_here", "_law_some"]
def a_odd : List Str := ["_law_spring_here"]
def b_odd (i_pick : Nat) : Cs := (.cons (.set (.nm 1) (.lst (.cons .non (.cons (.bl true) (.cons (.bl false) (.cons (.int 0) (.cons (.int 1) (.cons (.neg (.int 1)) (.cons (.int 2) (.cons (.int 6) (.cons (.int 7) (.cons (.str "") (.cons (.str "take") (.cons (.str "leaves") (.cons (.tup .nil) (.cons (.lst .nil) (.cons .emp (.cons (.tup (.cons (.tup .nil) .nil)) (.cons (.tup (.cons (.int 0) .nil)) .nil))))))))))))))))))) (.cons (.set (.nm 1) (.bin .add (.var 1) (.lst (.cons (.tup (.cons .non .nil)) (.cons (.tup (.cons (.int 1) (.cons (.int 2) .nil))) (.cons (.tup (.cons (.int 2) (.cons (.int 1) .nil))) (.cons (.tup (.cons (.int 1) (.cons (.int 2) (.cons (.int 3) .nil)))) (.cons (.lst (.cons (.int 1) (.cons (.int 2) .nil))) (.cons (.bin .pow (.int 10) (.int 39)) (.cons (.tup (.cons (.bl true) (.cons (.int 2) .nil))) (.cons (.str "a b") (.cons (.tup (.cons .non (.cons .non .nil))) .nil)))))))))))) (.cons (.ret (.call i_pick (.cons (.var 0) (.cons (.bin .add (.var 1) (.lst (.cons (.tup (.cons (.tup (.cons (.int 1) (.cons (.int 2) .nil))) (.cons .non (.cons (.str "take") (.cons (.int 0) .nil))))) (.cons (.tup (.cons (.tup (.cons (.tup (.cons (.int 1) (.cons (.int 2) .nil))) (.cons .non (.cons (.str "take") (.cons (.int 0) .nil))))) .nil)) .nil)))) .nil)))) .nil)))
def n_other : List Str := ["_law_spring_here", "_law_value", "_law_way", "_law_spot"]
def a_other : List Str := ["_law_spring_here", "_law_value"]
def b_other (i_dip i_odd : Nat) : Cs := (.cons (.set (.nm 2) (.call i_dip (.cons (.var 0) (.cons (.int 6) .nil)))) (.cons (.ife (.an (.cons (.isi "int" (.var 1)) (.cons (.nt (.isi "bool" (.var 1))) (.cons (.cmp .lt (.var 2) (.int 4)) .nil)))) (.cons (.ret (.bin .add (.var 1) (.ix (.lst (.cons (.int 1) (.cons (.neg (.int 1)) (.cons (.int 7) (.cons (.neg (.int 13)) .nil))))) (.var 2)))) .nil) .nil) (.cons (.ife (.an (.cons (.isi "tuple" (.var 1)) (.cons (.cmp .lt (.var 2) (.int 5)) .nil))) (.cons (.ife (.cmp .eq (.var 2) (.int 0)) (.cons (.ret (.bty .list (.cons (.var 1) .nil))) .nil) .nil) (.cons (.ife (.an (.cons (.cmp .lt (.var 2) (.int 3)) (.cons (.cmp .ne (.var 1) (.tup .nil)) .nil))) (.cons (.set (.nm 3) (.call i_dip (.cons (.var 0) (.cons (.blt .len (.cons (.var 1) .nil)) .nil)))) (.cons (.ret (.ife (.cmp .eq (.var 2) (.int 1)) (.bin .add (.sl (.var 1) .no (.so (.var 3))) (.sl (.var 1) (.so (.bin .add (.var 3) (.int 1))) .no)) (.bin .add (.var 1) (.tup (.cons (.ix (.var 1) (.var 3)) .nil))))) .nil)) .nil) (.cons (.ret (.ife (.cmp .eq (.var 2) (.int 3)) (.bin .add (.var 1) (.tup (.cons (.call i_odd (.cons (.var 0) .nil)) .nil))) (.rev (.var 1)))) .nil))) .nil) (.cons (.ife (.an (.cons (.isi "str" (.var 1)) (.cons (.cmp .lt (.var 2) (.int 3)) .nil))) (.cons (.ret (.ix (.lst (.cons (.bin .add (.var 1) (.str "s")) (.cons (.sl (.var 1) .no (.so (.int 1))) (.cons (.up (.var 1)) .nil)))) (.var 2))) .nil) .nil) (.cons (.ret (.call i_odd (.cons (.var 0) .nil))) .nil)))))
def n_spoilt : List Str := ["_law_spring_here", "_law_value", "_law_spot"]
def a_spoilt : List Str := ["_law_spring_here", "_law_value"]
def b_spoilt (i_dip i_other self_ : Nat) : Cs := (.cons (.ife (.an (.cons (.isi "tuple" (.var 1)) (.cons (.cmp .ne (.var 1) (.tup .nil)) (.cons (.cmp .gt (.call i_dip (.cons (.var 0) (.cons (.int 5) .nil))) (.int 0)) .nil)))) (.cons (.set (.nm 2) (.call i_dip (.cons (.var 0) (.cons (.blt .len (.cons (.var 1) .nil)) .nil)))) (.cons (.ret (.bin .add (.bin .add (.sl (.var 1) .no (.so (.var 2))) (.tup (.cons (.call self_ (.cons (.var 0) (.cons (.ix (.var 1) (.var 2)) .nil))) .nil))) (.sl (.var 1) (.so (.bin .add (.var 2) (.int 1))) .no))) .nil)) .nil) (.cons (.ret (.call i_other (.cons (.var 0) (.cons (.var 1) .nil)))) .nil))
def n_is_whole : List Str := ["_law_value"]
def a_is_whole : List Str := ["_law_value"]
def b_is_whole : Cs := (.cons (.ret (.an (.cons (.isi "int" (.var 0)) (.cons (.nt (.isi "bool" (.var 0))) .nil)))) .nil)
def n_is_stand : List Str := ["_law_receiver_here", "_law_value"]
def a_is_stand : List Str := ["_law_receiver_here", "_law_value"]
def b_is_stand (i_is_whole : Nat) : Cs := (.cons (.ife (.or (.cons (.nt (.isi "tuple" (.var 1))) (.cons (.cmp .ne (.blt .len (.cons (.var 1) .nil)) (.int 3)) .nil))) (.cons (.ret (.bl false)) .nil) .nil) (.cons (.ife (.or (.cons (.nt (.call i_is_whole (.cons (.ix (.var 1) (.int 0)) .nil))) (.cons (.nt (.call i_is_whole (.cons (.ix (.var 1) (.int 1)) .nil))) (.cons (.nt (.chn .le .lt (.int 0) (.ix (.var 1) (.int 0)) (.blt .len (.cons (.var 0) .nil)))) .nil)))) (.cons (.ret (.bl false)) .nil) .nil) (.cons (.ret (.or (.cons (.cmp .is_ (.ix (.var 1) (.int 2)) .non) (.cons (.an (.cons (.call i_is_whole (.cons (.ix (.var 1) (.int 2)) .nil)) (.cons (.chn .le .le (.neg (.int 6)) (.bin .sub (.ix (.var 1) (.int 2)) (.ix (.var 1) (.int 1))) (.int 6)) .nil))) .nil)))) .nil)))
def n_p__is_limit : List Str := ["value"]
def a_p__is_limit : List Str := ["value"]
def b_p__is_limit (i_p_is_integer g_MAX_BOUND : Nat) : Cs := (.cons (.ret (.or (.cons (.cmp .is_ (.var 0) .non) (.cons (.an (.cons (.call i_p_is_integer (.cons (.var 0) .nil)) (.cons (.cmp .le (.blt .abs (.cons (.var 0) .nil)) (.glb g_MAX_BOUND)) .nil))) .nil)))) .nil)
def n_p__is_range : List Str := ["value", "low", "high"]
def a_p__is_range : List Str := ["value"]
def b_p__is_range (i_p_is_tuple i_p__is_limit : Nat) : Cs := (.cons (.ife (.nt (.call i_p_is_tuple (.cons (.var 0) (.cons (.int 2) (.cons (.int 2) .nil))))) (.cons (.ret (.bl false)) .nil) .nil) (.cons (.set (.tp (.cons (.nm 1) (.cons (.nm 2) .nil))) (.var 0)) (.cons (.ife (.or (.cons (.nt (.call i_p__is_limit (.cons (.var 1) .nil))) (.cons (.nt (.call i_p__is_limit (.cons (.var 2) .nil))) .nil))) (.cons (.ret (.bl false)) .nil) .nil) (.cons (.ret (.or (.cons (.cmp .is_ (.var 1) .non) (.cons (.cmp .is_ (.var 2) .non) (.cons (.cmp .le (.var 1) (.var 2)) .nil))))) .nil))))
def n_p__is_deed : List Str := ["value"]
def a_p__is_deed : List Str := ["value"]
def b_p__is_deed (g_DEEDS : Nat) : Cs := (.cons (.ret (.an (.cons (.isi "str" (.var 0)) (.cons (.cmp .in_ (.var 0) (.glb g_DEEDS)) .nil)))) .nil)
def n_p__row_word : List Str := ["row", "many", "ahead", "after", "deed", "to_state"]
def a_p__row_word : List Str := ["row", "many"]
def b_p__row_word (i_p_is_index i_p_is_tuple i_p__is_range i_p__is_deed : Nat) : Cs := (.cons (.ife (.nt (.call i_p_is_tuple (.cons (.var 0) (.cons (.int 4) (.cons (.int 4) .nil))))) (.cons (.ret (.str "row")) .nil) .nil) (.cons (.set (.tp (.cons (.nm 2) (.cons (.nm 3) (.cons (.nm 4) (.cons (.nm 5) .nil))))) (.var 0)) (.cons (.ife (.nt (.call i_p__is_range (.cons (.var 2) .nil))) (.cons (.ret (.str "ahead")) .nil) .nil) (.cons (.ife (.an (.cons (.cmp .nis (.var 3) .non) (.cons (.nt (.call i_p__is_range (.cons (.var 3) .nil))) .nil))) (.cons (.ret (.str "after")) .nil) .nil) (.cons (.ife (.nt (.call i_p__is_deed (.cons (.var 4) .nil))) (.cons (.ret (.str "deed")) .nil) .nil) (.cons (.ife (.nt (.call i_p_is_index (.cons (.var 5) (.cons (.var 1) .nil)))) (.cons (.ret (.str "next")) .nil) .nil) (.cons (.ife (.an (.cons (.cmp .eq (.var 4) (.str "keep")) (.cons (.cmp .in_ .non (.var 2)) .nil))) (.cons (.ret (.str "keep")) .nil) .nil) (.cons (.ret .non) .nil))))))))
def n_p__state_error : List Str := ["at", "state", "many", "row_at", "row", "word"]
def a_p__state_error : List Str := ["at", "state", "many"]
def b_p__state_error (i_p_is_tuple i_p__row_word g_MAX_ROWS : Nat) : Cs := (.cons (.ife (.nt (.call i_p_is_tuple (.cons (.var 1) (.cons (.int 0) (.cons (.glb g_MAX_ROWS) .nil))))) (.cons (.ret (.tup (.cons (.tup (.cons (.var 0) .nil)) (.cons (.str "state") .nil)))) .nil) .nil) (.cons (.for_ (.tp (.cons (.nm 3) (.cons (.nm 4) .nil))) (.en (.var 1)) (.cons (.set (.nm 5) (.call i_p__row_word (.cons (.var 4) (.cons (.var 2) .nil)))) (.cons (.ife (.cmp .nis (.var 5) .non) (.cons (.ret (.tup (.cons (.tup (.cons (.var 0) (.cons (.var 3) .nil))) (.cons (.var 5) .nil)))) .nil) .nil) .nil))) (.cons (.ret .non) .nil)))
def n_p_receiver_error : List Str := ["value", "at", "state", "error"]
def a_p_receiver_error : List Str := ["value"]
def b_p_receiver_error (i_p_is_tuple i_p__state_error g_MAX_STATES : Nat) : Cs := (.cons (.ife (.nt (.call i_p_is_tuple (.cons (.var 0) (.cons (.int 1) (.cons (.glb g_MAX_STATES) .nil))))) (.cons (.ret (.tup (.cons (.tup .nil) (.cons (.str "receiver") .nil)))) .nil) .nil) (.cons (.for_ (.tp (.cons (.nm 1) (.cons (.nm 2) .nil))) (.en (.var 0)) (.cons (.set (.nm 3) (.call i_p__state_error (.cons (.var 1) (.cons (.var 2) (.cons (.blt .len (.cons (.var 0) .nil)) .nil))))) (.cons (.ife (.cmp .nis (.var 3) .non) (.cons (.ret (.var 3)) .nil) .nil) .nil))) (.cons (.ret .non) .nil)))
def n_is_range : List Str := ["_law_value", "_law_bound"]
def a_is_range : List Str := ["_law_value"]
def b_is_range (i_is_whole : Nat) : Cs := (.cons (.ife (.or (.cons (.nt (.isi "tuple" (.var 0))) (.cons (.cmp .ne (.blt .len (.cons (.var 0) .nil)) (.int 2)) .nil))) (.cons (.ret (.bl false)) .nil) .nil) (.cons (.for_ (.nm 1) (.seq (.var 0)) (.cons (.ife (.an (.cons (.cmp .nis (.var 1) .non) (.cons (.or (.cons (.nt (.call i_is_whole (.cons (.var 1) .nil))) (.cons (.nt (.chn .le .le (.neg (.int 6)) (.var 1) (.int 6))) .nil))) .nil))) (.cons (.ret (.bl false)) .nil) .nil) .nil)) (.cons (.ret (.or (.cons (.cmp .in_ .non (.var 0)) (.cons (.cmp .le (.ix (.var 0) (.int 0)) (.ix (.var 0) (.int 1))) .nil)))) .nil)))
def n_row_word : List Str := ["_law_value", "_law_many", "_law_deeds", "_law_flags"]
def a_row_word : List Str := ["_law_value", "_law_many"]
def b_row_word (i_is_whole i_is_range : Nat) : Cs := (.cons (.ife (.or (.cons (.nt (.isi "tuple" (.var 0))) (.cons (.cmp .ne (.blt .len (.cons (.var 0) .nil)) (.int 4)) .nil))) (.cons (.ret (.str "row")) .nil) .nil) (.cons (.set (.nm 2) (.lst (.cons (.str "take") (.cons (.str "keep") (.cons (.str "leave") (.cons (.str "drop") .nil)))))) (.cons (.set (.nm 3) (.new (.cons (.call i_is_range (.cons (.ix (.var 0) (.int 0)) .nil)) (.cons (.or (.cons (.cmp .is_ (.ix (.var 0) (.int 1)) .non) (.cons (.call i_is_range (.cons (.ix (.var 0) (.int 1)) .nil)) .nil))) .nil)))) (.cons (.ex (.app (.var 3) (.an (.cons (.isi "str" (.ix (.var 0) (.int 2))) (.cons (.cmp .in_ (.ix (.var 0) (.int 2)) (.var 2)) .nil))))) (.cons (.ex (.app (.var 3) (.an (.cons (.call i_is_whole (.cons (.ix (.var 0) (.int 3)) .nil)) (.cons (.chn .le .lt (.int 0) (.ix (.var 0) (.int 3)) (.var 1)) .nil))))) (.cons (.ife (.cmp .in_ (.bl false) (.var 3)) (.cons (.ret (.ix (.lst (.cons (.str "ahead") (.cons (.str "after") (.cons (.str "deed") (.cons (.str "next") .nil))))) (.idx (.var 3) (.bl false)))) .nil) .nil) (.cons (.ret (.ife (.an (.cons (.cmp .eq (.ix (.var 0) (.int 2)) (.str "keep")) (.cons (.cmp .in_ .non (.ix (.var 0) (.int 0))) .nil))) (.str "keep") .non)) .nil)))))))
def n_receiver_error : List Str := ["_law_value", "_law_k", "_law_row_here", "_law_word"]
def a_receiver_error : List Str := ["_law_value"]
def b_receiver_error (i_row_word : Nat) : Cs := (.cons (.ife (.or (.cons (.nt (.isi "tuple" (.var 0))) (.cons (.nt (.chn .le .le (.int 1) (.blt .len (.cons (.var 0) .nil)) (.int 4))) .nil))) (.cons (.ret (.tup (.cons (.tup .nil) (.cons (.str "receiver") .nil)))) .nil) .nil) (.cons (.for_ (.nm 1) (.r1 (.blt .len (.cons (.var 0) .nil))) (.cons (.ife (.or (.cons (.nt (.isi "tuple" (.ix (.var 0) (.var 1)))) (.cons (.cmp .gt (.blt .len (.cons (.ix (.var 0) (.var 1)) .nil)) (.int 6)) .nil))) (.cons (.ret (.tup (.cons (.tup (.cons (.var 1) .nil)) (.cons (.str "state") .nil)))) .nil) .nil) (.cons (.for_ (.nm 2) (.r1 (.blt .len (.cons (.ix (.var 0) (.var 1)) .nil))) (.cons (.set (.nm 3) (.call i_row_word (.cons (.ix (.ix (.var 0) (.var 1)) (.var 2)) (.cons (.blt .len (.cons (.var 0) .nil)) .nil)))) (.cons (.ife (.cmp .nis (.var 3) .non) (.cons (.ret (.tup (.cons (.tup (.cons (.var 1) (.cons (.var 2) .nil))) (.cons (.var 3) .nil)))) .nil) .nil) .nil))) .nil))) (.cons (.ret .non) .nil)))
def n_truthed : List Str := ["_law_value", "_law_item"]
def a_truthed : List Str := ["_law_value"]
def b_truthed (self_ : Nat) : Cs := (.cons (.ife (.isi "tuple" (.var 0)) (.cons (.ret (.bty .tuple (.cons (.comp (.seq (.var 0)) 1 .no (.call self_ (.cons (.var 1) .nil))) .nil))) .nil) .nil) (.cons (.ife (.isi "bool" (.var 0)) (.cons (.ret (.bty .int (.cons (.var 0) .nil))) .nil) .nil) (.cons (.ret (.ife (.an (.cons (.isi "int" (.var 0)) (.cons (.chn .le .le (.int 0) (.var 0) (.int 1)) .nil))) (.cmp .eq (.var 0) (.int 1)) (.var 0))) .nil)))
def n_bounds : List Str := ["_law_spring_here"]
def a_bounds : List Str := ["_law_spring_here"]
def b_bounds (i_pick : Nat) : Cs := (.cons (.ret (.tup (.cons (.call i_pick (.cons (.var 0) (.cons (.lst (.cons .non (.cons (.neg (.int 7)) (.cons (.neg (.int 6)) (.cons (.int 0) (.cons (.int 6) (.cons (.int 7) (.cons (.bl true) .nil)))))))) .nil))) (.cons (.call i_pick (.cons (.var 0) (.cons (.lst (.cons .non (.cons (.neg (.int 7)) (.cons (.neg (.int 6)) (.cons (.int 0) (.cons (.int 6) (.cons (.int 7) (.cons (.bl false) .nil)))))))) .nil))) .nil)))) .nil)
def n_some_row : List Str := ["_law_spring_here", "_law_many", "_law_deed", "_law_after", "_law_ahead"]
def a_some_row : List Str := ["_law_spring_here", "_law_many"]
def b_some_row (i_dip i_pick i_bounds : Nat) : Cs := (.cons (.set (.nm 2) (.call i_pick (.cons (.var 0) (.cons (.lst (.cons (.str "take") (.cons (.str "keep") (.cons (.str "leave") (.cons (.str "drop") (.cons (.str "keep") (.cons (.str "Take") (.cons .non .nil)))))))) .nil)))) (.cons (.set (.nm 3) (.ife (.cmp .eq (.call i_dip (.cons (.var 0) (.cons (.int 2) .nil))) (.int 0)) .non (.call i_bounds (.cons (.var 0) .nil)))) (.cons (.set (.nm 4) (.ife (.cmp .eq (.call i_dip (.cons (.var 0) (.cons (.int 2) .nil))) (.int 0)) (.call i_bounds (.cons (.var 0) .nil)) (.tup (.cons (.int 1) (.cons (.int 2) .nil))))) (.cons (.ret (.tup (.cons (.var 4) (.cons (.var 3) (.cons (.var 2) (.cons (.call i_pick (.cons (.var 0) (.cons (.lst (.cons (.int 0) (.cons (.bin .sub (.var 1) (.int 1)) (.cons (.var 1) (.cons (.neg (.int 1)) (.cons (.bl true) (.cons .non .nil))))))) .nil))) .nil)))))) .nil))))
def n_p_answers : List Str := ["receiver", "numbers", "last", "stand", "told", "number", "taken"]
def a_p_answers : List Str := ["receiver", "numbers", "last"]
def b_p_answers (i_p_hear : Nat) : Cs := (.cons (.set (.nm 3) (.tup (.cons (.int 0) (.cons (.var 2) (.cons .non .nil))))) (.cons (.set (.nm 4) (.new .nil)) (.cons (.for_ (.nm 5) (.seq (.var 1)) (.cons (.set (.tp (.cons (.nm 6) (.cons (.nm 3) .nil))) (.call i_p_hear (.cons (.var 0) (.cons (.var 3) (.cons (.var 5) .nil))))) (.cons (.ex (.app (.var 4) (.var 6))) .nil))) (.cons (.ret (.bty .tuple (.cons (.var 4) .nil))) .nil))))
def n_p_stand_after : List Str := ["receiver", "numbers", "last", "stand", "number", "_"]
def a_p_stand_after : List Str := ["receiver", "numbers", "last"]
def b_p_stand_after (i_p_hear : Nat) : Cs := (.cons (.set (.nm 3) (.tup (.cons (.int 0) (.cons (.var 2) (.cons .non .nil))))) (.cons (.for_ (.nm 4) (.seq (.var 1)) (.cons (.set (.tp (.cons (.nm 5) (.cons (.nm 3) .nil))) (.call i_p_hear (.cons (.var 0) (.cons (.var 3) (.cons (.var 4) .nil))))) .nil)) (.cons (.ret (.var 3)) .nil)))
def n_walk : List Str := ["_law_receiver_here", "_law_origin", "_law_numbers_here", "_law_number", "_law_stand", "_law_found", "_law_taken"]
def a_walk : List Str := ["_law_receiver_here", "_law_origin", "_law_numbers_here"]
def b_walk (i_heard : Nat) : Cs := (.cons (.par 4 5 (.tup (.cons (.int 0) (.cons (.var 1) (.cons .non .nil)))) (.new .nil)) (.cons (.for_ (.nm 3) (.seq (.var 2)) (.cons (.set (.tp (.cons (.nm 6) (.cons (.nm 4) .nil))) (.call i_heard (.cons (.var 0) (.cons (.var 4) (.cons (.var 3) .nil))))) (.cons (.ex (.app (.var 5) (.var 6))) .nil))) (.cons (.ret (.tup (.cons (.bty .tuple (.cons (.var 5) .nil)) (.cons (.var 4) .nil)))) .nil)))
def n_numbers : List Str := ["_law_spring_here", "_law_receiver_here", "_law_origin", "_law_many", "_law_k", "_law_stand", "_law_found", "_law_way", "_law_number"]
def a_numbers : List Str := ["_law_spring_here", "_law_receiver_here", "_law_origin", "_law_many"]
def b_numbers (i_dip i_pick i_heard : Nat) : Cs := (.cons (.par 5 6 (.tup (.cons (.int 0) (.cons (.var 2) (.cons .non .nil)))) (.new .nil)) (.cons (.for_ (.nm 4) (.r1 (.call i_dip (.cons (.var 0) (.cons (.bin .add (.var 3) (.int 1)) .nil)))) (.cons (.set (.nm 7) (.call i_dip (.cons (.var 0) (.cons (.int 9) .nil)))) (.cons (.ife (.cmp .eq (.var 7) (.int 0)) (.cons (.set (.nm 8) (.bin .add (.ix (.var 5) (.int 1)) (.call i_pick (.cons (.var 0) (.cons (.lst (.cons (.neg (.bin .pow (.int 10) (.int 20))) (.cons (.neg (.int 14)) (.cons (.neg (.int 13)) (.cons (.neg (.int 7)) (.cons (.int 7) (.cons (.int 13) (.cons (.int 14) (.cons (.bin .pow (.int 10) (.int 20)) .nil))))))))) .nil))))) .nil) (.cons (.ife (.an (.cons (.cmp .eq (.var 7) (.int 1)) (.cons (.cmp .ne (.var 6) (.lst .nil)) .nil))) (.cons (.set (.nm 8) (.ix (.var 6) (.neg (.int 1)))) .nil) (.cons (.ife (.an (.cons (.cmp .lt (.var 7) (.int 4)) (.cons (.cmp .nis (.ix (.var 5) (.int 2)) .non) .nil))) (.cons (.set (.nm 8) (.bin .sub (.bin .add (.ix (.var 5) (.int 2)) (.call i_dip (.cons (.var 0) (.cons (.int 5) .nil)))) (.int 1))) .nil) (.cons (.set (.nm 8) (.bin .add (.ix (.var 5) (.int 1)) (.ife (.cmp .lt (.var 7) (.int 6)) (.bin .sub (.call i_dip (.cons (.var 0) (.cons (.int 15) .nil))) (.int 7)) (.bin .add (.int 1) (.call i_dip (.cons (.var 0) (.cons (.int 7) .nil))))))) .nil)) .nil)) .nil)) (.cons (.ex (.app (.var 6) (.var 8))) (.cons (.set (.nm 5) (.ix (.call i_heard (.cons (.var 1) (.cons (.var 5) (.cons (.var 8) .nil)))) (.int 1))) .nil))))) (.cons (.ret (.bty .tuple (.cons (.var 6) .nil))) .nil)))
def n_p__mirrored_bound : List Str := ["bound"]
def a_p__mirrored_bound : List Str := ["bound"]
def b_p__mirrored_bound : Cs := (.cons (.ret (.ife (.cmp .is_ (.var 0) .non) .non (.neg (.var 0)))) .nil)
def n_p__mirrored_range : List Str := ["limits", "low", "high"]
def a_p__mirrored_range : List Str := ["limits"]
def b_p__mirrored_range (i_p__mirrored_bound : Nat) : Cs := (.cons (.set (.tp (.cons (.nm 1) (.cons (.nm 2) .nil))) (.var 0)) (.cons (.ret (.tup (.cons (.call i_p__mirrored_bound (.cons (.var 2) .nil)) (.cons (.call i_p__mirrored_bound (.cons (.var 1) .nil)) .nil)))) .nil))
def n_p__mirrored_row : List Str := ["row", "ahead", "after", "deed", "to_state"]
def a_p__mirrored_row : List Str := ["row"]
def b_p__mirrored_row (i_p__mirrored_range : Nat) : Cs := (.cons (.set (.tp (.cons (.nm 1) (.cons (.nm 2) (.cons (.nm 3) (.cons (.nm 4) .nil))))) (.var 0)) (.cons (.ife (.cmp .nis (.var 2) .non) (.cons (.set (.nm 2) (.call i_p__mirrored_range (.cons (.var 2) .nil))) .nil) .nil) (.cons (.ret (.tup (.cons (.call i_p__mirrored_range (.cons (.var 1) .nil)) (.cons (.var 2) (.cons (.var 3) (.cons (.var 4) .nil)))))) .nil)))
def n_p_mirrored : List Str := ["receiver", "state", "row"]
def a_p_mirrored : List Str := ["receiver"]
def b_p_mirrored (i_p__mirrored_row : Nat) : Cs := (.cons (.ret (.bty .tuple (.cons (.comp (.seq (.var 0)) 1 .no (.bty .tuple (.cons (.comp (.seq (.var 1)) 2 .no (.call i_p__mirrored_row (.cons (.var 2) .nil))) .nil))) .nil))) .nil)
def n_turned : List Str := ["_law_own", "_law_bound"]
def a_turned : List Str := ["_law_own"]
def b_turned : Cs := (.cons (.ret (.bty .tuple (.cons (.comp (.seq (.rev (.var 0))) 1 .no (.ife (.cmp .is_ (.var 1) .non) .non (.neg (.var 1)))) .nil))) .nil)
def n_p_table_of : List Str := ["receiver", "rest", "step"]
def a_p_table_of : List Str := ["receiver", "rest"]
def b_p_table_of (i_p_step_from g_FAR_STEP : Nat) : Cs := (.cons (.ret (.comp (.r2 (.neg (.glb g_FAR_STEP)) (.bin .add (.glb g_FAR_STEP) (.int 1))) 2 .no (.call i_p_step_from (.cons (.var 0) (.cons (.var 1) (.cons (.var 2) .nil)))))) .nil)
def n_p__floor_behind : List Str := ["rising", "taken", "step"]
def a_p__floor_behind : List Str := ["rising", "taken", "step"]
def b_p__floor_behind (g_FAR_STEP : Nat) : Cs := (.cons (.ife (.nt (.var 0)) (.cons (.ret (.bin .sub (.neg (.glb g_FAR_STEP)) (.int 1))) .nil) .nil) (.cons (.ife (.var 1) (.cons (.ret (.int 0)) .nil) .nil) (.cons (.ret (.ife (.cmp .lt (.var 2) (.glb g_FAR_STEP)) (.var 2) (.bin .sub (.glb g_FAR_STEP) (.int 1)))) .nil)))
def n_p__numbers_of : List Str := ["steps", "rising", "numbers", "last", "step", "taken", "number"]
def a_p__numbers_of : List Str := ["steps", "rising"]
def b_p__numbers_of : Cs := (.cons (.set (.nm 2) (.new .nil)) (.cons (.set (.nm 3) (.int 0)) (.cons (.for_ (.tp (.cons (.nm 4) (.cons (.nm 5) .nil))) (.seq (.var 0)) (.cons (.set (.nm 6) (.bin .add (.var 3) (.var 4))) (.cons (.ife (.an (.cons (.var 1) (.cons (.var 2) (.cons (.cmp .le (.var 6) (.ix (.var 2) (.neg (.int 1)))) .nil)))) (.cons (.set (.nm 6) (.bin .add (.ix (.var 2) (.neg (.int 1))) (.int 1))) .nil) .nil) (.cons (.ex (.app (.var 2) (.var 6))) (.cons (.ife (.var 5) (.cons (.set (.nm 3) (.var 6)) .nil) .nil) .nil))))) (.cons (.ret (.bty .tuple (.cons (.var 2) .nil))) .nil))))
def n_p__steps_to : List Str := ["links", "end", "steps", "link", "meeting", "step", "taken"]
def a_p__steps_to : List Str := ["links", "end"]
def b_p__steps_to : Cs := (.cons (.set (.nm 2) (.new .nil)) (.cons (.set (.nm 3) (.var 1)) (.cons (.whl (.cmp .nis (.var 3) .non) (.cons (.set (.tp (.cons (.nm 4) (.cons (.nm 5) (.cons (.nm 6) .nil)))) (.var 3)) (.cons (.ex (.app (.var 2) (.tup (.cons (.var 5) (.cons (.var 6) .nil))))) (.cons (.set (.nm 3) (.ix (.var 0) (.var 4))) .nil)))) (.cons (.ret (.rev (.var 2))) .nil))))
def n_p_parting : List Str := ["one", "other", "rising", "links", "end"]
def a_p_parting : List Str := ["one", "other", "rising"]
def b_p_parting (i_p__first_unlike i_p__numbers_of i_p__steps_to : Nat) : Cs := (.cons (.set (.tp (.cons (.nm 3) (.cons (.nm 4) .nil))) (.call i_p__first_unlike (.cons (.var 0) (.cons (.var 1) (.cons (.var 2) (.cons (.bl true) .nil)))))) (.cons (.ife (.cmp .is_ (.var 4) .non) (.cons (.ret .non) .nil) .nil) (.cons (.ret (.call i_p__numbers_of (.cons (.call i_p__steps_to (.cons (.var 3) (.cons (.var 4) .nil))) (.cons (.var 2) .nil)))) .nil)))
def n_p__rises : List Str := ["numbers", "before", "number"]
def a_p__rises : List Str := ["numbers"]
def b_p__rises : Cs := (.cons (.set (.nm 1) (.int 0)) (.cons (.for_ (.nm 2) (.seq (.var 0)) (.cons (.ife (.cmp .le (.var 2) (.var 1)) (.cons (.ret (.bl false)) .nil) .nil) (.cons (.set (.nm 1) (.var 2)) .nil))) (.cons (.ret (.bl true)) .nil)))
def n_led : List Str := ["_law_row_here", "_law_behind"]
def a_led : List Str := ["_law_row_here", "_law_behind"]
def b_led : Cs := (.cons (.ret (.bin .add (.sl (.var 0) .no (.so (.int 3))) (.tup (.cons (.var 1) .nil)))) .nil)
def n_shaped : List Str := ["_law_spring_here", "_law_receiver_here", "_law_rows", "_law_way", "_law_state", "_law_more", "_law_one", "_law_found", "_law_moves", "_law_led_here", "_law_row_here", "_law_k"]
def a_shaped : List Str := ["_law_spring_here", "_law_receiver_here"]
def b_shaped (i_dip i_row i_swapped i_led : Nat) : Cs := (.cons (.set (.tp (.cons (.nm 3) (.cons (.nm 4) .nil))) (.tup (.cons (.call i_dip (.cons (.var 0) (.cons (.int 4) .nil))) (.cons (.call i_dip (.cons (.var 0) (.cons (.blt .len (.cons (.var 1) .nil)) .nil))) .nil)))) (.cons (.set (.nm 2) (.ix (.var 1) (.var 4))) (.cons (.ife (.an (.cons (.cmp .eq (.var 3) (.int 0)) (.cons (.chn .lt .lt (.int 0) (.blt .len (.cons (.var 2) .nil)) (.int 6)) .nil))) (.cons (.set (.nm 5) (.bin .add (.sl (.ix (.var 2) (.call i_dip (.cons (.var 0) (.cons (.blt .len (.cons (.var 2) .nil)) .nil)))) .no (.so (.int 2))) (.sl (.call i_row (.cons (.var 0) (.cons (.blt .len (.cons (.var 1) .nil)) .nil))) (.so (.int 2)) .no))) (.cons (.set (.nm 5) (.ife (.an (.cons (.cmp .in_ .non (.ix (.var 5) (.int 0))) (.cons (.cmp .eq (.ix (.var 5) (.int 2)) (.str "keep")) .nil))) (.bin .add (.bin .add (.sl (.var 5) .no (.so (.int 2))) (.tup (.cons (.str "leave") .nil))) (.sl (.var 5) (.so (.int 3)) .no)) (.var 5))) (.cons (.ret (.bin .add (.bin .add (.sl (.var 1) .no (.so (.var 4))) (.tup (.cons (.bin .add (.var 2) (.tup (.cons (.var 5) .nil))) .nil))) (.sl (.var 1) (.so (.bin .add (.var 4) (.int 1))) .no))) .nil))) .nil) (.cons (.ife (.an (.cons (.cmp .eq (.var 3) (.int 1)) (.cons (.cmp .lt (.blt .len (.cons (.var 2) .nil)) (.int 6)) .nil))) (.cons (.ret (.bin .add (.bin .add (.sl (.var 1) .no (.so (.var 4))) (.tup (.cons (.bin .add (.var 2) (.tup (.cons (.tup (.cons (.tup (.cons .non (.cons .non .nil))) (.cons .non (.cons (.str "leave") (.cons (.var 4) .nil))))) .nil))) .nil))) (.sl (.var 1) (.so (.bin .add (.var 4) (.int 1))) .no))) .nil) .nil) (.cons (.ife (.an (.cons (.cmp .eq (.var 3) (.int 2)) (.cons (.cmp .gt (.blt .len (.cons (.var 1) .nil)) (.int 2)) .nil))) (.cons (.set (.nm 6) (.bin .add (.int 1) (.call i_dip (.cons (.var 0) (.cons (.bin .sub (.blt .len (.cons (.var 1) .nil)) (.int 1)) .nil))))) (.cons (.ret (.call i_swapped (.cons (.var 1) (.cons (.var 6) (.cons (.bin .add (.int 1) (.call i_dip (.cons (.var 0) (.cons (.bin .sub (.blt .len (.cons (.var 1) .nil)) (.int 1)) .nil)))) .nil))))) .nil)) .nil) (.cons (.ife (.an (.cons (.cmp .eq (.var 3) (.int 3)) (.cons (.cmp .lt (.blt .len (.cons (.var 1) .nil)) (.int 4)) .nil))) (.cons (.set (.nm 7) (.new .nil)) (.cons (.for_ (.nm 2) (.seq (.bin .add (.var 1) (.tup (.cons (.var 2) .nil)))) (.cons (.set (.nm 8) (.comp (.seq (.var 2)) 10 .no (.an (.cons (.cmp .eq (.call i_dip (.cons (.var 0) (.cons (.int 2) .nil))) (.int 0)) (.cons (.cmp .eq (.ix (.var 10) (.int 3)) (.var 4)) .nil))))) (.cons (.set (.nm 9) (.comp (.r1 (.blt .len (.cons (.var 2) .nil))) 11 .no (.ife (.ix (.var 8) (.var 11)) (.blt .len (.cons (.var 1) .nil)) (.ix (.ix (.var 2) (.var 11)) (.int 3))))) (.cons (.ex (.app (.var 7) (.bty .tuple (.cons (.comp (.r1 (.blt .len (.cons (.var 2) .nil))) 11 .no (.call i_led (.cons (.ix (.var 2) (.var 11)) (.cons (.ix (.var 9) (.var 11)) .nil)))) .nil)))) .nil)))) (.cons (.ret (.bty .tuple (.cons (.var 7) .nil))) .nil))) .nil) (.cons (.ret (.var 1)) .nil)))))))
def n_varied : List Str := ["_law_spring_here", "_law_receiver_here", "_law_state", "_law_spot", "_law_rows", "_law_way"]
def a_varied : List Str := ["_law_spring_here", "_law_receiver_here"]
def b_varied (i_dip i_row : Nat) : Cs := (.cons (.set (.nm 2) (.call i_dip (.cons (.var 0) (.cons (.blt .len (.cons (.var 1) .nil)) .nil)))) (.cons (.par 4 5 (.ix (.var 1) (.var 2)) (.call i_dip (.cons (.var 0) (.cons (.int 4) .nil)))) (.cons (.set (.nm 3) (.call i_dip (.cons (.var 0) (.cons (.bin .add (.blt .len (.cons (.var 4) .nil)) (.int 1)) .nil)))) (.cons (.ife (.an (.cons (.cmp .eq (.var 5) (.int 0)) (.cons (.cmp .ne (.var 4) (.tup .nil)) .nil))) (.cons (.set (.nm 3) (.blt .min (.cons (.var 3) (.cons (.bin .sub (.blt .len (.cons (.var 4) .nil)) (.int 1)) .nil)))) (.cons (.set (.nm 4) (.bin .add (.sl (.var 4) .no (.so (.var 3))) (.sl (.var 4) (.so (.bin .add (.var 3) (.int 1))) .no))) .nil)) (.cons (.ife (.an (.cons (.cmp .eq (.var 5) (.int 1)) (.cons (.cmp .ne (.var 4) (.tup .nil)) .nil))) (.cons (.set (.nm 3) (.blt .min (.cons (.var 3) (.cons (.bin .sub (.blt .len (.cons (.var 4) .nil)) (.int 1)) .nil)))) (.cons (.set (.nm 4) (.bin .add (.bin .add (.sl (.var 4) .no (.so (.var 3))) (.tup (.cons (.call i_row (.cons (.var 0) (.cons (.blt .len (.cons (.var 1) .nil)) .nil))) .nil))) (.sl (.var 4) (.so (.bin .add (.var 3) (.int 1))) .no))) .nil)) (.cons (.ife (.cmp .lt (.blt .len (.cons (.var 4) .nil)) (.int 6)) (.cons (.set (.nm 4) (.bin .add (.bin .add (.sl (.var 4) .no (.so (.var 3))) (.tup (.cons (.call i_row (.cons (.var 0) (.cons (.blt .len (.cons (.var 1) .nil)) .nil))) .nil))) (.sl (.var 4) (.so (.var 3)) .no))) .nil) .nil) .nil)) .nil)) (.cons (.ret (.bin .add (.bin .add (.sl (.var 1) .no (.so (.var 2))) (.tup (.cons (.var 4) .nil))) (.sl (.var 1) (.so (.bin .add (.var 2) (.int 1))) .no))) .nil)))))
def n_rises : List Str := ["_law_numbers_here", "_law_ahead", "_law_k"]
def a_rises : List Str := ["_law_numbers_here"]
def b_rises : Cs := (.cons (.set (.nm 1) (.bin .add (.tup (.cons (.int 0) .nil)) (.bty .tuple (.cons (.var 0) .nil)))) (.cons (.ret (.cmp .eq (.comp (.r1 (.blt .len (.cons (.var 0) .nil))) 2 (.so (.cmp .le (.ix (.var 0) (.var 2)) (.ix (.var 1) (.var 2)))) (.var 2)) (.lst .nil))) .nil))
def n_rising : List Str := ["_law_spring_here", "_law_many", "_law_k", "_law_number", "_law_found"]
def a_rising : List Str := ["_law_spring_here", "_law_many"]
def b_rising (i_dip i_pick : Nat) : Cs := (.cons (.par 3 4 (.int 0) (.new .nil)) (.cons (.for_ (.nm 2) (.r1 (.call i_dip (.cons (.var 0) (.cons (.bin .add (.var 1) (.int 1)) .nil)))) (.cons (.set (.nm 3) (.bin .add (.bin .add (.var 3) (.int 1)) (.call i_pick (.cons (.var 0) (.cons (.lst (.cons (.int 0) (.cons (.int 0) (.cons (.int 0) (.cons (.int 1) (.cons (.int 2) (.cons (.call i_dip (.cons (.var 0) (.cons (.int 7) .nil))) (.cons (.int 13) (.cons (.bin .pow (.int 10) (.int 20)) .nil))))))))) .nil))))) (.cons (.ex (.app (.var 4) (.var 3))) .nil))) (.cons (.ret (.bty .tuple (.cons (.var 4) .nil))) .nil)))
def n_two : List Str := ["_law_spring_here", "_law_states", "_law_rows", "_law_other_here", "_law_one", "_law_way"]
def a_two : List Str := ["_law_spring_here", "_law_states", "_law_rows"]
def b_two (i_dip i_receiver i_shaped i_varied : Nat) : Cs := (.cons (.par 4 5 (.call i_receiver (.cons (.var 0) (.cons (.var 1) (.cons (.var 2) .nil)))) (.call i_dip (.cons (.var 0) (.cons (.int 5) .nil)))) (.cons (.ife (.cmp .eq (.var 5) (.int 0)) (.cons (.ret (.lst (.cons (.var 4) (.cons (.call i_receiver (.cons (.var 0) (.cons (.var 1) (.cons (.var 2) .nil)))) .nil)))) .nil) .nil) (.cons (.ife (.cmp .eq (.var 5) (.int 1)) (.cons (.ret (.lst (.cons (.var 4) (.cons (.call i_shaped (.cons (.var 0) (.cons (.var 4) .nil))) .nil)))) .nil) .nil) (.cons (.set (.nm 3) (.call i_varied (.cons (.var 0) (.cons (.var 4) .nil)))) (.cons (.ret (.lst (.cons (.var 4) (.cons (.ife (.cmp .lt (.var 5) (.int 4)) (.var 3) (.call i_shaped (.cons (.var 0) (.cons (.var 3) .nil)))) .nil)))) .nil)))))
def n_is_numbers : List Str := ["_law_value", "_law_number"]
def a_is_numbers : List Str := ["_law_value"]
def b_is_numbers (i_is_whole : Nat) : Cs := (.cons (.ret (.an (.cons (.isi "tuple" (.var 0)) (.cons (.cmp .eq (.comp (.seq (.var 0)) 1 (.so (.nt (.call i_is_whole (.cons (.var 1) .nil)))) (.var 1)) (.lst .nil)) .nil)))) .nil)
def n_parts : List Str := ["_law_one", "_law_other_here", "_law_value", "_law_upward", "_law_left", "_law_right"]
def a_parts : List Str := ["_law_one", "_law_other_here", "_law_value", "_law_upward"]
def b_parts (i_walk i_rises i_is_numbers : Nat) : Cs := (.cons (.ife (.or (.cons (.nt (.call i_is_numbers (.cons (.var 2) .nil))) (.cons (.cmp .eq (.var 2) (.tup .nil)) (.cons (.an (.cons (.var 3) (.cons (.nt (.call i_rises (.cons (.var 2) .nil))) .nil))) .nil)))) (.cons (.ret (.bl false)) .nil) .nil) (.cons (.par 4 5 (.ix (.call i_walk (.cons (.var 0) (.cons (.int 0) (.cons (.var 2) .nil)))) (.int 0)) (.ix (.call i_walk (.cons (.var 1) (.cons (.int 0) (.cons (.var 2) .nil)))) (.int 0))) (.cons (.ret (.an (.cons (.cmp .eq (.sl (.var 4) .no (.so (.neg (.int 1)))) (.sl (.var 5) .no (.so (.neg (.int 1))))) (.cons (.cmp .ne (.ix (.var 4) (.neg (.int 1))) (.ix (.var 5) (.neg (.int 1)))) .nil)))) .nil)))
end Pv

/-! Receivers as mathematics. -/
namespace Pv
open PySem L2 PySem.Spec PyProof.Rows
inductive Dd where
  | take | keep | leave | drop
  deriving DecidableEq
structure Rw where
  lo : Option Int
  hi : Option Int
  af : Option (Option Int × Option Int)
  dd : Dd
  nx : Nat
abbrev Rc := List (List Rw)
def eO : Option Int → D
  | none => .non
  | some i => .int i
def eP (p : Option Int × Option Int) : D := .tup [eO p.1, eO p.2]
def eA : Option (Option Int × Option Int) → D
  | none => .non
  | some p => eP p
def Dd.s : Dd → Str
  | .take => "take" | .keep => "keep" | .leave => "leave" | .drop => "drop"
def eRw (r : Rw) : D := .tup [eP (r.lo, r.hi), eA r.af, .str r.dd.s, .int r.nx]
def eSt (rs : List Rw) : D := .tup (rs.map eRw)
def eRc (R : Rc) : D := .tup (R.map eSt)
abbrev Rs := Nat × Option Int
def eRs (r : Rs) : D := match r.2 with
  | none => .tup [.int r.1]
  | some g => .tup [.int r.1, .int g]
def lies (n : Int) (p : Option Int × Option Int) : Bool := (match p.1 with | none => true | some l => decide (l ≤ n)) && (match p.2 with | none => true | some h => decide (n ≤ h))
def aftB (af : Option (Option Int × Option Int)) (g : Option Int) (n : Int) : Bool := match af with
  | none => true
  | some p => match g with
    | none => false
    | some g => lies (n - g) p
def Rw.so (r : Rw) (g : Option Int) (n : Int) : Bool := lies n (r.lo, r.hi) && aftB r.af g n
def cnt (rs : List Rw) (g : Option Int) (n : Int) : Option Nat := rs.findIdx? (·.so g n)
def eN : Option Nat → D
  | none => .non
  | some k => .int k
def Rw.done (r : Rw) (rest : Rs) (n : Int) : Bool × Rs := match r.dd with
  | .take => (true, (r.nx, none))
  | .keep => (false, (r.nx, some n))
  | .leave => (false, (r.nx, rest.2))
  | .drop => (false, (r.nx, none))
def Rc.st (R : Rc) (s : Nat) : List Rw := R.getD s []
def stp (R : Rc) (rest : Rs) (n : Int) : Bool × Rs := match (R.st rest.1).find? (·.so rest.2 n) with
  | none => (false, rest)
  | some r => r.done rest n
def ePr (p : Bool × Rs) : D := .tup [.bl p.1, eRs p.2]
/-- a stand: state, last, kept -/
abbrev Sd3 := Nat × Int × Option Int
def eSd (s : Sd3) : D := .tup [.int s.1, .int s.2.1, eO s.2.2]
def restOf (s : Sd3) : Rs := (s.1, s.2.2.map (· - s.2.1))
def standAt (r : Rs) (l : Int) : Sd3 := (r.1, l, r.2.map (l + ·))
def hearR (R : Rc) (s : Sd3) (n : Int) : Bool × Sd3 :=
  let p := stp R (restOf s) (n - s.2.1)
  (p.1, standAt p.2 (if p.1 then n else s.2.1))
def eHr (p : Bool × Sd3) : D := .tup [.bl p.1, eSd p.2]
/-! what receivers keep to -/
def B6 (o : Option Int) : Prop := ∀ i, o = some i → -6 ≤ i ∧ i ≤ 6
structure OkP (p : Option Int × Option Int) : Prop where
  lo : B6 p.1
  hi : B6 p.2
  le : ∀ a b, p.1 = some a → p.2 = some b → a ≤ b
structure Rw.Ok (n : Nat) (r : Rw) : Prop where
  ah : OkP (r.lo, r.hi)
  af : ∀ p, r.af = some p → OkP p
  kp : r.dd = .keep → r.lo ≠ none ∧ r.hi ≠ none
  nx : r.nx < n
structure Rc.Ok (s r : Nat) (R : Rc) : Prop where
  l1 : 1 ≤ R.length
  l2 : R.length ≤ s
  ln : ∀ st ∈ R, st.length ≤ r
  ok : ∀ st ∈ R, ∀ w ∈ st, w.Ok R.length
structure Rs.Ok (R : Rc) (r : Rs) : Prop where
  st : r.1 < R.length
  gp : B6 r.2
theorem B6.none : B6 none := fun _ h => nomatch h
theorem B6.some {i : Int} (h : -6 ≤ i) (h' : i ≤ 6) : B6 (some i) := fun _ e => by cases e; exact ⟨h, h'⟩
theorem Rc.Ok.mono {s r s' r' : Nat} {R : Rc} (h : R.Ok s r) (hs : s ≤ s') (hr : r ≤ r') : R.Ok s' r' := ⟨h.l1, Nat.le_trans h.l2 hs, fun st hst => Nat.le_trans (h.ln st hst) hr, h.ok⟩
theorem Rc.st_mem {R : Rc} {s : Nat} (h : s < R.length) : R.st s ∈ R := by
  unfold Rc.st
  rw [List.getD_eq_getElem?_getD, List.getElem?_eq_getElem h]
  exact List.getElem_mem h
theorem stp_ok {s r : Nat} {R : Rc} (hR : R.Ok s r) {rest : Rs} (h : Rs.Ok R rest) (n : Int) : Rs.Ok R (stp R rest n).2 := by
  unfold stp
  split
  · exact h
  · rename_i w hw
    have hm := Rc.st_mem h.st
    have ok := hR.ok _ hm w (List.mem_of_find?_eq_some hw)
    have so : w.so rest.2 n = true := by
      have q := List.find?_some (p := fun x : Rw => x.so rest.2 n) hw
      exact q
    unfold Rw.done
    split
    · exact ⟨ok.nx, B6.none⟩
    · rename_i hk
      obtain ⟨k1, k2⟩ := ok.kp hk
      refine ⟨ok.nx, ?_⟩
      unfold Rw.so lies at so
      simp only [Bool.and_eq_true] at so
      obtain ⟨⟨s1, s2⟩, _⟩ := so
      have a1 := ok.ah.lo
      have a2 := ok.ah.hi
      cases hl : w.lo with
      | none => exact absurd hl k1
      | some l =>
        cases hh : w.hi with
        | none => exact absurd hh k2
        | some u =>
          rw [hl] at s1 a1
          rw [hh] at s2 a2
          have b1 := a1 l rfl
          have b2 := a2 u rfl
          have c1 : l ≤ n := by simpa using s1
          have c2 : n ≤ u := by simpa using s2
          exact B6.some (by omega) (by omega)
    · exact ⟨ok.nx, h.gp⟩
    · exact ⟨ok.nx, B6.none⟩
/-! contracts -/
def rangeK : OL := fun ds S Q => ∃ p, ds = [.loc p] ∧ Spr S p ∧ ∀ a S', OkP a → Dr p S S' → Q (eP a) S'
theorem rangeK_iff {p : Nat} {S : Store} {Q : QE} : rangeK [.loc p] S Q ↔ (Spr S p ∧ ∀ a S', OkP a → Dr p S S' → Q (eP a) S') :=
  ⟨fun ⟨_, e, h⟩ => by cases e; exact h, fun h => ⟨_, rfl, h⟩⟩
def rowK : OL := fun ds S Q => ∃ p n, ds = [.loc p, .int n] ∧ 0 < n ∧ n < 1000 ∧ Spr S p ∧ ∀ r S', r.Ok n.toNat → Dr p S S' → Q (eRw r) S'
theorem rowK_iff {p : Nat} {n : Int} {S : Store} {Q : QE} : rowK [.loc p, .int n] S Q ↔ (0 < n ∧ n < 1000 ∧ Spr S p ∧ ∀ r S', r.Ok n.toNat → Dr p S S' → Q (eRw r) S') :=
  ⟨fun ⟨_, _, e, h⟩ => by cases e; exact h, fun h => ⟨_, _, rfl, h⟩⟩
def windowR (n : Int) : Rc := [[⟨some 1, some n, none, .take, 0⟩]]
def windowK : OL := fun ds S Q => ∃ n, ds = [.int n] ∧ Q (eRc (windowR n)) S
theorem windowK_iff {n : Int} {S : Store} {Q : QE} : windowK [.int n] S Q ↔ Q (eRc (windowR n)) S :=
  ⟨fun ⟨_, e, h⟩ => by cases e; exact h, fun h => ⟨_, rfl, h⟩⟩
def pairedSt (a b : Int) (n k : Nat) : List Rw :=
  [⟨some 1, some a, none, .take, 0⟩] ++ (if 0 < k then [if k + 1 = n then ⟨some (a + 1), some b, some (some 1, some 1), .take, 0⟩ else ⟨some (a + 1), some b, some (some 1, some 1), .keep, k + 1⟩] else []) ++ [⟨some (a + 1), some b, none, .keep, 1⟩]
def pairedR (a b : Int) (n : Nat) : Rc := (List.range n).map (pairedSt a b n)
def pairedK : OL := fun ds S Q => ∃ a b n, ds = [.int a, .int b, .int n] ∧ 0 ≤ n ∧ n ≤ 900 ∧ ∀ S', Ext S S' → Q (eRc (pairedR a b n.toNat)) S'
theorem pairedK_iff {a b n : Int} {S : Store} {Q : QE} : pairedK [.int a, .int b, .int n] S Q ↔ (0 ≤ n ∧ n ≤ 900 ∧ ∀ S', Ext S S' → Q (eRc (pairedR a b n.toNat)) S') :=
  ⟨fun ⟨_, _, _, e, h⟩ => by cases e; exact h, fun h => ⟨_, _, _, rfl, h⟩⟩
def receiverK : OL := fun ds S Q => ∃ p s r, ds = [.loc p, .int s, .int r] ∧ 1 ≤ s ∧ s ≤ 100 ∧ 1 ≤ r ∧ r ≤ 100 ∧ Spr S p ∧ ∀ R S', Rc.Ok s.toNat r.toNat R → Dr p S S' → Q (eRc R) S'
theorem receiverK_iff {p : Nat} {s r : Int} {S : Store} {Q : QE} : receiverK [.loc p, .int s, .int r] S Q ↔ (1 ≤ s ∧ s ≤ 100 ∧ 1 ≤ r ∧ r ≤ 100 ∧ Spr S p ∧ ∀ R S', Rc.Ok s.toNat r.toNat R → Dr p S S' → Q (eRc R) S') :=
  ⟨fun ⟨_, _, _, e, h⟩ => by cases e; exact h, fun h => ⟨_, _, _, rfl, h⟩⟩
def liesK : OL := fun ds S Q => ∃ n p, ds = [.int n, eP p] ∧ Q (.bl (lies n p)) S
theorem liesK_iff {n : Int} {p : Option Int × Option Int} {S : Store} {Q : QE} (h : Q (.bl (lies n p)) S) : liesK [.int n, eP p] S Q := ⟨_, _, rfl, h⟩
def afterK : OL := fun ds S Q => ∃ r n a, ds = [eRs r, .int n, eA a] ∧ Q (.bl (aftB a r.2 n)) S
theorem afterK_of {r : Rs} {n : Int} {a : Option (Option Int × Option Int)} {S : Store} {Q : QE} (h : Q (.bl (aftB a r.2 n)) S) : afterK [eRs r, .int n, eA a] S Q := ⟨_, _, _, rfl, h⟩
def countK : OL := fun ds S Q => ∃ R r n, ds = [eRc R, eRs r, .int n] ∧ Rc.Ok 100 100 R ∧ r.1 < R.length ∧ Q (eN (cnt (R.st r.1) r.2 n)) S
theorem countK_of {R : Rc} {r : Rs} {n : Int} {S : Store} {Q : QE} (ok : Rc.Ok 100 100 R) (hr : r.1 < R.length) (h : Q (eN (cnt (R.st r.1) r.2 n)) S) : countK [eRc R, eRs r, .int n] S Q := ⟨_, _, _, rfl, ok, hr, h⟩
def doneK : OL := fun ds S Q => ∃ w r n, ds = [eRw w, eRs r, .int n] ∧ Q (ePr (w.done r n)) S
theorem doneK_of {w : Rw} {r : Rs} {n : Int} {S : Store} {Q : QE} (h : Q (ePr (w.done r n)) S) : doneK [eRw w, eRs r, .int n] S Q := ⟨_, _, _, rfl, h⟩
def stepK : OL := fun ds S Q => ∃ R r n, ds = [eRc R, eRs r, .int n] ∧ Rc.Ok 100 100 R ∧ r.1 < R.length ∧ Q (ePr (stp R r n)) S
theorem stepK_of {R : Rc} {r : Rs} {n : Int} {S : Store} {Q : QE} (ok : Rc.Ok 100 100 R) (hr : r.1 < R.length) (h : Q (ePr (stp R r n)) S) : stepK [eRc R, eRs r, .int n] S Q := ⟨_, _, _, rfl, ok, hr, h⟩
def restK : OL := fun ds S Q => ∃ s, ds = [eSd s] ∧ Q (eRs (restOf s)) S
theorem restK_of {s : Sd3} {S : Store} {Q : QE} (h : Q (eRs (restOf s)) S) : restK [eSd s] S Q := ⟨_, rfl, h⟩
def standK : OL := fun ds S Q => ∃ r l, ds = [eRs r, .int l] ∧ Q (eSd (standAt r l)) S
theorem standK_of {r : Rs} {l : Int} {S : Store} {Q : QE} (h : Q (eSd (standAt r l)) S) : standK [eRs r, .int l] S Q := ⟨_, _, rfl, h⟩
def hearK : OL := fun ds S Q => ∃ R s n, ds = [eRc R, eSd s, .int n] ∧ Rc.Ok 100 100 R ∧ s.1 < R.length ∧ Q (eHr (hearR R s n)) S
theorem hearK_of {R : Rc} {s : Sd3} {n : Int} {S : Store} {Q : QE} (ok : Rc.Ok 100 100 R) (hr : s.1 < R.length) (h : Q (eHr (hearR R s n)) S) : hearK [eRc R, eSd s, .int n] S Q := ⟨_, _, _, rfl, ok, hr, h⟩
end Pv

namespace Pv
open PySem L2 PySem.Spec PyProof.Rows
theorem len_ok {n : Nat} (h : n ≤ 1000) : n ≤ sizeLine := Nat.le_trans h sz
theorem rngD_zero (n : Nat) : rngD 0 n = (List.range n).map fun i => D.int (i : Nat) := by
  unfold rngD
  simp
/-- a loop over range(n), by what holds ahead of turn k -/
theorem forN_of {g : WG} {tb : WS} {src : Store → Option (List D)} {all : List D} {E : En} {n : Nat} (I : Nat → Env → Store → Prop) (h0 : ∀ ρ S, I n ρ S → E.nx ρ S)
    (h1 : ∀ k ρ S (N : Env → Store → Prop), k < n → I k ρ S → (∀ ρ2 S2, src S2 = some all → I (k + 1) ρ2 S2 → N ρ2 S2) → g (.int k) ρ S fun ρ1 S1 => tb ρ1 S1 { rt := E.rt, bk := E.nx, nx := N, ct := N }) : ∀ ρ S, I 0 ρ S → forL g tb src all (rngD 0 n) ρ S E := by
  intro ρ S h
  refine forL_of (I := fun l ρ S => ∃ k, k ≤ n ∧ l = (List.range' k (n - k)).map (fun i => D.int (i : Nat)) ∧ I k ρ S) ?_ ?_ _ _ _ ⟨0, Nat.zero_le _, ?_, h⟩
  · rintro ρ S ⟨k, hk, e, i⟩
    have hl := congrArg List.length e
    simp only [List.length_nil, List.length_map, List.length_range'] at hl
    have : k = n := by omega
    subst this
    exact h0 ρ S i
  · rintro x xs ρ S N ⟨k, hk, e, i⟩ hN
    have hl := congrArg List.length e
    simp only [List.length_cons, List.length_map, List.length_range'] at hl
    obtain ⟨m, hm⟩ : ∃ m, n - k = m + 1 := ⟨n - k - 1, by omega⟩
    rw [hm, List.range'_succ, List.map_cons] at e
    cases e
    refine h1 k ρ S N (by omega) i fun ρ2 S2 hs hi => hN ρ2 S2 hs ⟨k + 1, by omega, ?_, hi⟩
    have : n - (k + 1) = m := by omega
    rw [this]
  · rw [rngD_zero, List.range_eq_range', Nat.sub_zero]
theorem pairedSt_len (a b : Int) (n k : Nat) : (pairedSt a b n k).length ≤ 3 := by
  unfold pairedSt
  split <;> simp
theorem wp_paired (Γ : Gm) : ∀ ds S Q, pairedK ds S Q → wSs Γ b_paired (inE n_paired ds) S { nx := fun _ S' => Q .non S', rt := Q } := by
  rintro _ S Q ⟨a, b, n, rfl, n0, n9, q⟩
  have z := sz
  show wSs Γ b_paired [some (.int a), some (.int b), some (.int n), none, none, none, none] S _
  refine seq_gen fun N hN => ?_
  simp only [wSs, wSt, wP, wEs, bAn, bOr, wOp, wCd, wIt, pr, prB, wTru, wB, wVar, wC, w1, w2, wL, wTup, wLst, wNew, wNil, wCons, wNot, wAnd, wOr, vNot, vAnd, vOr, wIf, wChain, wRet, wRetN, wIfS, wSeq, wSkip, wAsg, wPar, wTri, wPut, wDrop, wT, wTs, Ts.len, gN, gT, tupL, gNl, gCn, wSl, wSome, wNone, wEmp, wNewd, wNewd1, wCompT, wipeE, wFor, wComp, iR1, iSeq, Bo.o2, Co.o2, Bl.ol, Bt.ol, intD, subD, modD, fdivD, powD, boolD, ltD_int, mul_int, mul_tup, iEn, isND, ↓reduceIte, Bool.false_eq_true, List.length_cons, List.length_nil, Nat.reduceAdd, Nat.zero_add, sz_true, Nat.reduceLeDiff, eq_int, addL, List.cons_append, List.nil_append, ne_eq, reduceCtorEq, not_false_eq_true, not_true_eq_false, tru_bl, ex_cons, ex_two, ex_one, ex_i, ex_ij, ex_bl, ex_env, Bool.bne_false, Bool.bne_true, at3_0, at3_1, at3_2, seqx_tup, seqx_lst, negD, absD, addI, defl, lf1, Lf.d, List.getElem?_cons_zero, List.getElem?_cons_succ, List.set_cons_zero, List.set_cons_succ, Option.some.injEq, exists_eq_left', exists_eq_left, D.int.injEq, D.bl.injEq, D.tup.injEq, D.str.injEq, D.loc.injEq, D.lst.injEq, and_true, true_and, exists_and_left, exists_and_right, decide_eq_true_eq, Bool.not_eq_true', decide_eq_false_iff_not]
  refine hN _ _ ?_
  clear hN N
  refine seq_gen fun N hN => ?_
  obtain ⟨m, rfl⟩ := Int.eq_ofNat_of_zero_le n0
  simp only [Int.toNat_natCast] at q
  have fin : ∀ x y zz S' , Ext S S' → S'[S.length]? = some (.lst ((pairedR a b m).map eSt)) → N [some (.int a), some (.int b), some (.int m), x, zz, some (.loc S.length), y] S' := by
    intro x y zz S' ex hf
    refine hN _ _ (seq_one ?_)
    simp only [wSs, wSt, wP, wEs, bAn, bOr, wOp, wCd, wIt, pr, prB, wTru, wB, wVar, wC, w1, w2, wL, wTup, wLst, wNew, wNil, wCons, wNot, wAnd, wOr, vNot, vAnd, vOr, wIf, wChain, wRet, wRetN, wIfS, wSeq, wSkip, wAsg, wPar, wTri, wPut, wDrop, wT, wTs, Ts.len, gN, gT, tupL, gNl, gCn, wSl, wSome, wNone, wEmp, wNewd, wNewd1, wCompT, wipeE, wFor, wComp, iR1, iSeq, Bo.o2, Co.o2, Bl.ol, Bt.ol, intD, subD, modD, fdivD, powD, boolD, ltD_int, mul_int, mul_tup, iEn, isND, ↓reduceIte, Bool.false_eq_true, List.length_cons, List.length_nil, Nat.reduceAdd, Nat.zero_add, sz_true, Nat.reduceLeDiff, eq_int, addL, List.cons_append, List.nil_append, ne_eq, reduceCtorEq, not_false_eq_true, not_true_eq_false, tru_bl, ex_cons, ex_two, ex_one, ex_i, ex_ij, ex_bl, ex_env, Bool.bne_false, Bool.bne_true, at3_0, at3_1, at3_2, seqx_tup, seqx_lst, negD, absD, addI, defl, lf1, Lf.d, List.getElem?_cons_zero, List.getElem?_cons_succ, List.set_cons_zero, List.set_cons_succ, Option.some.injEq, exists_eq_left', exists_eq_left, D.int.injEq, D.bl.injEq, D.tup.injEq, D.str.injEq, D.loc.injEq, D.lst.injEq, and_true, true_and, exists_and_left, exists_and_right, decide_eq_true_eq, Bool.not_eq_true', decide_eq_false_iff_not, tup_loc hf]
    exact q S' ex
  clear hN
  refine for_step fun B hB => ?_
  simp only [wSs, wSt, wP, wEs, bAn, bOr, wOp, wCd, wIt, pr, prB, wTru, wB, wVar, wC, w1, w2, wL, wTup, wLst, wNew, wNil, wCons, wNot, wAnd, wOr, vNot, vAnd, vOr, wIf, wChain, wRet, wRetN, wIfS, wSeq, wSkip, wAsg, wPar, wTri, wPut, wDrop, wT, wTs, Ts.len, gN, gT, tupL, gNl, gCn, wSl, wSome, wNone, wEmp, wNewd, wNewd1, wCompT, wipeE, wFor, wComp, iR1, iSeq, Bo.o2, Co.o2, Bl.ol, Bt.ol, intD, subD, modD, fdivD, powD, boolD, ltD_int, mul_int, mul_tup, iEn, isND, ↓reduceIte, Bool.false_eq_true, List.length_cons, List.length_nil, Nat.reduceAdd, Nat.zero_add, sz_true, Nat.reduceLeDiff, eq_int, addL, List.cons_append, List.nil_append, ne_eq, reduceCtorEq, not_false_eq_true, not_true_eq_false, tru_bl, ex_cons, ex_two, ex_one, ex_i, ex_ij, ex_bl, ex_env, Bool.bne_false, Bool.bne_true, at3_0, at3_1, at3_2, seqx_tup, seqx_lst, negD, absD, addI, defl, lf1, Lf.d, List.getElem?_cons_zero, List.getElem?_cons_succ, List.set_cons_zero, List.set_cons_succ, Option.some.injEq, exists_eq_left', exists_eq_left, D.int.injEq, D.bl.injEq, D.tup.injEq, D.str.injEq, D.loc.injEq, D.lst.injEq, and_true, true_and, exists_and_left, exists_and_right, decide_eq_true_eq, Bool.not_eq_true', decide_eq_false_iff_not]
  refine ⟨by omega, by omega, ?_⟩
  rw [Int.toNat_natCast]
  refine forN_of (fun k ρ S' => Ext S S' ∧ ∃ x y, ρ = [some (.int a), some (.int b), some (.int m), x, some (.tup [.int (a + 1), .int b]), some (.loc S.length), y] ∧ S'[S.length]? = some (.lst (((List.range k).map (pairedSt a b m)).map eSt))) ?_ ?_ _ _ ?_
  · rintro ρ S' ⟨ex, x, y, rfl, hf⟩
    exact fin _ _ _ _ ex hf
  · rintro k ρ S' M hk ⟨ex, x', y, rfl, hf⟩ hM
    have hlt : S.length < S'.length := by
      rcases Nat.lt_or_ge S.length S'.length with u | u
      · exact u
      · rw [List.getElem?_eq_none u] at hf
        cases hf
    have ne : S.length ≠ S'.length := by omega
    have step : ∀ S2 rs, S2.length = S'.length + 1 → Ext S S2 → S2[S.length]? = some (.lst (((List.range k).map (pairedSt a b m)).map eSt)) → S2[S'.length]? = some (.lst rs) → rs.length ≤ 5 → rs ++ [eRw ⟨some (a + 1), some b, none, .keep, 1⟩] = (pairedSt a b m k).map eRw →
        wSs Γ (.cons (.ex (.app (.var 5) (.bty .tuple (.cons (.bin .add (.var 6) (.lst (.cons (.tup (.cons (.var 4) (.cons .non (.cons (.str "keep") (.cons (.int 1) .nil))))) .nil))) .nil)))) .nil) [some (.int a), some (.int b), some (.int m), some (.int k), some (.tup [.int (a + 1), .int b]), some (.loc S.length), some (.loc S'.length)] S2 { rt := Q, bk := N, nx := M, ct := M } := by
      intro S2 rs l2 e2 f2 r2 lr er
      refine seq_one ?_
      simp only [wSs, wSt, wP, wEs, bAn, bOr, wOp, wCd, wIt, pr, prB, wTru, wB, wVar, wC, w1, w2, wL, wTup, wLst, wNew, wNil, wCons, wNot, wAnd, wOr, vNot, vAnd, vOr, wIf, wChain, wRet, wRetN, wIfS, wSeq, wSkip, wAsg, wPar, wTri, wPut, wDrop, wT, wTs, Ts.len, gN, gT, tupL, gNl, gCn, wSl, wSome, wNone, wEmp, wNewd, wNewd1, wCompT, wipeE, wFor, wComp, iR1, iSeq, Bo.o2, Co.o2, Bl.ol, Bt.ol, intD, subD, modD, fdivD, powD, boolD, ltD_int, mul_int, mul_tup, iEn, isND, ↓reduceIte, Bool.false_eq_true, List.length_cons, List.length_nil, Nat.reduceAdd, Nat.zero_add, sz_true, Nat.reduceLeDiff, eq_int, addL, List.cons_append, List.nil_append, ne_eq, reduceCtorEq, not_false_eq_true, not_true_eq_false, tru_bl, ex_cons, ex_two, ex_one, ex_i, ex_ij, ex_bl, ex_env, Bool.bne_false, Bool.bne_true, at3_0, at3_1, at3_2, seqx_tup, seqx_lst, negD, absD, addI, defl, lf1, Lf.d, List.getElem?_cons_zero, List.getElem?_cons_succ, List.set_cons_zero, List.set_cons_succ, Option.some.injEq, exists_eq_left', exists_eq_left, D.int.injEq, D.bl.injEq, D.tup.injEq, D.str.injEq, D.loc.injEq, D.lst.injEq, and_true, true_and, exists_and_left, exists_and_right, decide_eq_true_eq, Bool.not_eq_true', decide_eq_false_iff_not, add_loc r2, tup_lst, app_iff f2]
      refine ⟨⟨_, seq_loc f2⟩, by omega, by simp only [List.length_map, List.length_range]; omega, ?_⟩
      have e3 : Ext S (S2.set S.length (.lst ((((List.range k).map (pairedSt a b m)).map eSt) ++ [.tup (rs ++ [.tup [.tup [.int (a + 1), .int b], .non, .str "keep", .int 1]])]))) := e2.put (Nat.le_refl _)
      refine hM _ _ rfl ⟨e3, _, _, rfl, ?_⟩
      rw [List.getElem?_set_self (by omega), List.range_succ, List.map_append, List.map_append]
      congr 4
      unfold eSt
      rw [← er]
      rfl
    subst hB
    refine seq_gen fun N1 hN1 => ?_
    simp only [wSs, wSt, wP, wEs, bAn, bOr, wOp, wCd, wIt, pr, prB, wTru, wB, wVar, wC, w1, w2, wL, wTup, wLst, wNew, wNil, wCons, wNot, wAnd, wOr, vNot, vAnd, vOr, wIf, wChain, wRet, wRetN, wIfS, wSeq, wSkip, wAsg, wPar, wTri, wPut, wDrop, wT, wTs, Ts.len, gN, gT, tupL, gNl, gCn, wSl, wSome, wNone, wEmp, wNewd, wNewd1, wCompT, wipeE, wFor, wComp, iR1, iSeq, Bo.o2, Co.o2, Bl.ol, Bt.ol, intD, subD, modD, fdivD, powD, boolD, ltD_int, mul_int, mul_tup, iEn, isND, ↓reduceIte, Bool.false_eq_true, List.length_cons, List.length_nil, Nat.reduceAdd, Nat.zero_add, sz_true, Nat.reduceLeDiff, eq_int, addL, List.cons_append, List.nil_append, ne_eq, reduceCtorEq, not_false_eq_true, not_true_eq_false, tru_bl, ex_cons, ex_two, ex_one, ex_i, ex_ij, ex_bl, ex_env, Bool.bne_false, Bool.bne_true, at3_0, at3_1, at3_2, seqx_tup, seqx_lst, negD, absD, addI, defl, lf1, Lf.d, List.getElem?_cons_zero, List.getElem?_cons_succ, List.set_cons_zero, List.set_cons_succ, Option.some.injEq, exists_eq_left', exists_eq_left, D.int.injEq, D.bl.injEq, D.tup.injEq, D.str.injEq, D.loc.injEq, D.lst.injEq, and_true, true_and, exists_and_left, exists_and_right, decide_eq_true_eq, Bool.not_eq_true', decide_eq_false_iff_not]
    refine hN1 _ _ ?_
    clear hN1 N1
    refine seq_gen fun N2 hN2 => ?_
    have eA : Ext S (S' ++ [.lst [.tup [.tup [.int 1, .int a], .non, .str "take", .int 0]]]) := ex.new
    have fA : (S' ++ [Ob.lst [.tup [.tup [.int 1, .int a], .non, .str "take", .int 0]]])[S.length]? = some (.lst (((List.range k).map (pairedSt a b m)).map eSt)) := by
      rw [List.getElem?_append_left hlt]
      exact hf
    have rA : (S' ++ [Ob.lst [.tup [.tup [.int 1, .int a], .non, .str "take", .int 0]]])[S'.length]? = some (.lst [.tup [.tup [.int 1, .int a], .non, .str "take", .int 0]]) := by
      simp
    have goA := step _ _ (by simp) eA fA rA (by simp)
    have putA : ∀ d, [D.tup [.tup [.int 1, .int a], .non, .str "take", .int 0], d] ++ [eRw ⟨some (a + 1), some b, none, .keep, 1⟩] = (pairedSt a b m k).map eRw → N2 [some (.int a), some (.int b), some (.int m), some (.int k), some (.tup [.int (a + 1), .int b]), some (.loc S.length), some (.loc S'.length)] ((S' ++ [Ob.lst [.tup [.tup [.int 1, .int a], .non, .str "take", .int 0]]]).set S'.length (.lst ([.tup [.tup [.int 1, .int a], .non, .str "take", .int 0]] ++ [d]))) := fun d er =>
      hN2 _ _ (step _ _ (by simp) (eA.put (Nat.le_of_lt hlt)) (by rw [List.getElem?_set_ne (Ne.symm ne)]; exact fA) (List.getElem?_set_self (by simp)) (by simp) er)
    simp only [wSs, wSt, wP, wEs, bAn, bOr, wOp, wCd, wIt, pr, prB, wTru, wB, wVar, wC, w1, w2, wL, wTup, wLst, wNew, wNil, wCons, wNot, wAnd, wOr, vNot, vAnd, vOr, wIf, wChain, wRet, wRetN, wIfS, wSeq, wSkip, wAsg, wPar, wTri, wPut, wDrop, wT, wTs, Ts.len, gN, gT, tupL, gNl, gCn, wSl, wSome, wNone, wEmp, wNewd, wNewd1, wCompT, wipeE, wFor, wComp, iR1, iSeq, Bo.o2, Co.o2, Bl.ol, Bt.ol, intD, subD, modD, fdivD, powD, boolD, ltD_int, mul_int, mul_tup, iEn, isND, ↓reduceIte, Bool.false_eq_true, List.length_cons, List.length_nil, Nat.reduceAdd, Nat.zero_add, sz_true, Nat.reduceLeDiff, eq_int, addL, List.cons_append, List.nil_append, ne_eq, reduceCtorEq, not_false_eq_true, not_true_eq_false, tru_bl, ex_cons, ex_two, ex_one, ex_i, ex_ij, ex_bl, ex_env, Bool.bne_false, Bool.bne_true, at3_0, at3_1, at3_2, seqx_tup, seqx_lst, negD, absD, addI, defl, lf1, Lf.d, List.getElem?_cons_zero, List.getElem?_cons_succ, List.set_cons_zero, List.set_cons_succ, Option.some.injEq, exists_eq_left', exists_eq_left, D.int.injEq, D.bl.injEq, D.tup.injEq, D.str.injEq, D.loc.injEq, D.lst.injEq, and_true, true_and, exists_and_left, exists_and_right, decide_eq_true_eq, Bool.not_eq_true', decide_eq_false_iff_not, app_iff rA]
    split
    · rename_i k0
      refine ⟨⟨_, seq_loc rA⟩, ?_⟩
      have k0' : 0 < k := by omega
      split
      · rename_i kl
        have kl' : k + 1 = m := by
          have : (k : Int) = m - 1 := by simpa using kl
          omega
        exact ⟨by omega, putA _ (by unfold pairedSt; rw [if_pos k0', if_pos kl']; rfl)⟩
      · rename_i kl
        have kl' : ¬ k + 1 = m := by
          have : ¬ (k : Int) = m - 1 := by simpa using kl
          omega
        exact ⟨by omega, putA _ (by unfold pairedSt; rw [if_pos k0', if_neg kl']; rfl)⟩
    · rename_i k0
      have k0' : ¬ 0 < k := by omega
      exact hN2 _ _ (goA (by unfold pairedSt; rw [if_neg k0']; rfl))
  · exact ⟨(Ext.refl S).new, _, _, rfl, by simp⟩
theorem OkP.of {a b : Int} (h1 : -6 ≤ a) (h2 : a ≤ b) (h3 : b ≤ 6) : OkP (some a, some b) := ⟨B6.some (by omega) (by omega), B6.some (by omega) (by omega), fun x y h h' => by cases h; cases h'; exact h2⟩
theorem window_ok {n : Int} (h1 : 1 ≤ n) (h2 : n ≤ 6) : Rc.Ok 1 1 (windowR n) := by
  refine ⟨by simp [windowR], by simp [windowR], fun st hst => ?_, fun st hst w hw => ?_⟩
  · simp only [windowR, List.mem_cons, List.not_mem_nil, or_false] at hst
    subst hst
    simp
  · simp only [windowR, List.mem_cons, List.not_mem_nil, or_false] at hst
    subst hst
    simp only [List.mem_cons, List.not_mem_nil, or_false] at hw
    subst hw
    exact ⟨.of (by omega) h1 h2, fun p e => (by cases e), fun e => (by cases e), by simp [windowR]⟩
theorem paired_ok {a b : Int} {n : Nat} (h1 : 1 ≤ a) (h2 : a + 1 ≤ b) (h3 : b ≤ 6) (hn : 2 ≤ n) : Rc.Ok n 3 (pairedR a b n) := by
  have hl : (pairedR a b n).length = n := by simp [pairedR]
  refine ⟨by omega, by omega, fun st hst => ?_, fun st hst w hw => ?_⟩
  · simp only [pairedR, List.mem_map] at hst
    obtain ⟨k, _, rfl⟩ := hst
    exact pairedSt_len _ _ _ _
  · rw [hl]
    simp only [pairedR, List.mem_map, List.mem_range] at hst
    obtain ⟨k, hk, rfl⟩ := hst
    have o1 : OkP (some 1, some a) := .of (by omega) h1 (by omega)
    have o2 : OkP (some (a + 1), some b) := .of (by omega) h2 h3
    have o3 : OkP (some 1, some 1) := .of (by omega) (by omega) (by omega)
    simp only [pairedSt, List.mem_append, List.mem_cons, List.not_mem_nil, or_false] at hw
    rcases hw with (rfl | hw) | rfl
    · exact ⟨o1, fun p e => (by cases e), fun e => (by cases e), by show 0 < n; omega⟩
    · split at hw
      · simp only [List.mem_cons, List.not_mem_nil, or_false] at hw
        subst hw
        split
        · exact ⟨o2, fun p e => (by cases e; exact o3), fun e => (by cases e), by show 0 < n; omega⟩
        · exact ⟨o2, fun p e => (by cases e; exact o3), fun _ => ⟨by simp, by simp⟩, by show k + 1 < n; omega⟩
      · simp at hw
    · exact ⟨o2, fun p e => (by cases e), fun _ => ⟨by simp, by simp⟩, by show 1 < n; omega⟩
theorem wp_receiver (Γ : Gm) {dip row window paired : Nat} (h5 : Γ.fn dip = dipC) (h8 : Γ.fn row = rowK) (h9 : Γ.fn window = windowK) (h10 : Γ.fn paired = pairedK) : ∀ ds S Q, receiverK ds S Q → wSs Γ (b_receiver dip row window paired) (inE n_receiver ds) S { nx := fun _ S' => Q .non S', rt := Q } := by
  rintro _ S Q ⟨p, s, r, rfl, s1, s2, r1, r2, hs, q⟩
  have z := sz
  show wSs Γ (b_receiver dip row window paired) [some (.loc p), some (.int s), some (.int r), none, none, none, none, none, none] S _
  refine seq_gen fun N hN => ?_
  simp only [wSs, wSt, wP, wEs, bAn, bOr, wOp, wCd, wIt, pr, prB, wTru, wB, wVar, wC, w1, w2, wL, wTup, wLst, wNew, wNil, wCons, wNot, wAnd, wOr, vNot, vAnd, vOr, wIf, wChain, wRet, wRetN, wIfS, wSeq, wSkip, wAsg, wPar, wTri, wPut, wDrop, wT, wTs, Ts.len, gN, gT, tupL, gNl, gCn, wSl, wSome, wNone, wEmp, wNewd, wNewd1, wCompT, wipeE, wFor, wComp, iR1, iSeq, Bo.o2, Co.o2, Bl.ol, Bt.ol, intD, subD, modD, fdivD, powD, boolD, ltD_int, mul_int, mul_tup, iEn, isND, ↓reduceIte, Bool.false_eq_true, List.length_cons, List.length_nil, Nat.reduceAdd, Nat.zero_add, sz_true, Nat.reduceLeDiff, eq_int, addL, List.cons_append, List.nil_append, ne_eq, reduceCtorEq, not_false_eq_true, not_true_eq_false, tru_bl, ex_cons, ex_two, ex_one, ex_i, ex_ij, ex_bl, ex_env, Bool.bne_false, Bool.bne_true, at3_0, at3_1, at3_2, seqx_tup, seqx_lst, negD, absD, addI, defl, lf1, Lf.d, List.getElem?_cons_zero, List.getElem?_cons_succ, List.set_cons_zero, List.set_cons_succ, Option.some.injEq, exists_eq_left', exists_eq_left, D.int.injEq, D.bl.injEq, D.tup.injEq, D.str.injEq, D.loc.injEq, D.lst.injEq, and_true, true_and, exists_and_left, exists_and_right, decide_eq_true_eq, Bool.not_eq_true', decide_eq_false_iff_not, h5, dipC_iff]
  refine ⟨by omega, by omega, hs, fun w S1 wa wb d1 => hN _ _ ?_⟩
  clear hN N
  refine seq_gen fun N hN => ?_
  have fin1 : N [some (.loc p), some (.int s), some (.int r), some (.int w), none, none, none, none, none] S1 := hN _ _ (by
    clear hN N
    refine seq_gen fun N hN => ?_
    have fin2 : N [some (.loc p), some (.int s), some (.int r), some (.int w), none, none, none, none, none] S1 := hN _ _ (by
      clear hN N
      refine seq_gen fun N hN => ?_
      simp only [wSs, wSt, wP, wEs, bAn, bOr, wOp, wCd, wIt, pr, prB, wTru, wB, wVar, wC, w1, w2, wL, wTup, wLst, wNew, wNil, wCons, wNot, wAnd, wOr, vNot, vAnd, vOr, wIf, wChain, wRet, wRetN, wIfS, wSeq, wSkip, wAsg, wPar, wTri, wPut, wDrop, wT, wTs, Ts.len, gN, gT, tupL, gNl, gCn, wSl, wSome, wNone, wEmp, wNewd, wNewd1, wCompT, wipeE, wFor, wComp, iR1, iSeq, Bo.o2, Co.o2, Bl.ol, Bt.ol, intD, subD, modD, fdivD, powD, boolD, ltD_int, mul_int, mul_tup, iEn, isND, ↓reduceIte, Bool.false_eq_true, List.length_cons, List.length_nil, Nat.reduceAdd, Nat.zero_add, sz_true, Nat.reduceLeDiff, eq_int, addL, List.cons_append, List.nil_append, ne_eq, reduceCtorEq, not_false_eq_true, not_true_eq_false, tru_bl, ex_cons, ex_two, ex_one, ex_i, ex_ij, ex_bl, ex_env, Bool.bne_false, Bool.bne_true, at3_0, at3_1, at3_2, seqx_tup, seqx_lst, negD, absD, addI, defl, lf1, Lf.d, List.getElem?_cons_zero, List.getElem?_cons_succ, List.set_cons_zero, List.set_cons_succ, Option.some.injEq, exists_eq_left', exists_eq_left, D.int.injEq, D.bl.injEq, D.tup.injEq, D.str.injEq, D.loc.injEq, D.lst.injEq, and_true, true_and, exists_and_left, exists_and_right, decide_eq_true_eq, Bool.not_eq_true', decide_eq_false_iff_not, h5, dipC_iff]
      refine ⟨by omega, by omega, d1.spr, fun k S2 ka kb d2 => hN _ _ ?_⟩
      clear hN N
      have d2 := d1.trans d2
      refine seq_gen fun N hN => ?_
      simp only [wSs, wSt, wP, wEs, bAn, bOr, wOp, wCd, wIt, pr, prB, wTru, wB, wVar, wC, w1, w2, wL, wTup, wLst, wNew, wNil, wCons, wNot, wAnd, wOr, vNot, vAnd, vOr, wIf, wChain, wRet, wRetN, wIfS, wSeq, wSkip, wAsg, wPar, wTri, wPut, wDrop, wT, wTs, Ts.len, gN, gT, tupL, gNl, gCn, wSl, wSome, wNone, wEmp, wNewd, wNewd1, wCompT, wipeE, wFor, wComp, iR1, iSeq, Bo.o2, Co.o2, Bl.ol, Bt.ol, intD, subD, modD, fdivD, powD, boolD, ltD_int, mul_int, mul_tup, iEn, isND, ↓reduceIte, Bool.false_eq_true, List.length_cons, List.length_nil, Nat.reduceAdd, Nat.zero_add, sz_true, Nat.reduceLeDiff, eq_int, addL, List.cons_append, List.nil_append, ne_eq, reduceCtorEq, not_false_eq_true, not_true_eq_false, tru_bl, ex_cons, ex_two, ex_one, ex_i, ex_ij, ex_bl, ex_env, Bool.bne_false, Bool.bne_true, at3_0, at3_1, at3_2, seqx_tup, seqx_lst, negD, absD, addI, defl, lf1, Lf.d, List.getElem?_cons_zero, List.getElem?_cons_succ, List.set_cons_zero, List.set_cons_succ, Option.some.injEq, exists_eq_left', exists_eq_left, D.int.injEq, D.bl.injEq, D.tup.injEq, D.str.injEq, D.loc.injEq, D.lst.injEq, and_true, true_and, exists_and_left, exists_and_right, decide_eq_true_eq, Bool.not_eq_true', decide_eq_false_iff_not]
      refine hN _ _ ?_
      clear hN N
      refine seq_gen fun N hN => ?_
      have hfp : S2.length ≠ p := by
        have := d2.spr.lt
        omega
      obtain ⟨m, hm⟩ : ∃ m : Nat, 1 + k = m := ⟨(1 + k).toNat, by omega⟩
      rw [hm]
      have fin3 : ∀ a b c S3 (R : Rc), Dr p S S3 → S3[S2.length]? = some (.lst (R.map eSt)) → R.length = m → (∀ st ∈ R, st.length ≤ r.toNat ∧ ∀ w ∈ st, w.Ok m) → N [some (.loc p), some (.int s), some (.int r), some (.int w), some (.int m), some (.loc S2.length), a, b, c] S3 := by
        intro a b c S3 R d3 hf hl hR
        refine hN _ _ (seq_one ?_)
        simp only [wSs, wSt, wP, wEs, bAn, bOr, wOp, wCd, wIt, pr, prB, wTru, wB, wVar, wC, w1, w2, wL, wTup, wLst, wNew, wNil, wCons, wNot, wAnd, wOr, vNot, vAnd, vOr, wIf, wChain, wRet, wRetN, wIfS, wSeq, wSkip, wAsg, wPar, wTri, wPut, wDrop, wT, wTs, Ts.len, gN, gT, tupL, gNl, gCn, wSl, wSome, wNone, wEmp, wNewd, wNewd1, wCompT, wipeE, wFor, wComp, iR1, iSeq, Bo.o2, Co.o2, Bl.ol, Bt.ol, intD, subD, modD, fdivD, powD, boolD, ltD_int, mul_int, mul_tup, iEn, isND, ↓reduceIte, Bool.false_eq_true, List.length_cons, List.length_nil, Nat.reduceAdd, Nat.zero_add, sz_true, Nat.reduceLeDiff, eq_int, addL, List.cons_append, List.nil_append, ne_eq, reduceCtorEq, not_false_eq_true, not_true_eq_false, tru_bl, ex_cons, ex_two, ex_one, ex_i, ex_ij, ex_bl, ex_env, Bool.bne_false, Bool.bne_true, at3_0, at3_1, at3_2, seqx_tup, seqx_lst, negD, absD, addI, defl, lf1, Lf.d, List.getElem?_cons_zero, List.getElem?_cons_succ, List.set_cons_zero, List.set_cons_succ, Option.some.injEq, exists_eq_left', exists_eq_left, D.int.injEq, D.bl.injEq, D.tup.injEq, D.str.injEq, D.loc.injEq, D.lst.injEq, and_true, true_and, exists_and_left, exists_and_right, decide_eq_true_eq, Bool.not_eq_true', decide_eq_false_iff_not, tup_loc hf]
        exact q R S3 ⟨by omega, by omega, fun st hst => (hR st hst).1, fun st hst => by rw [hl]; exact (hR st hst).2⟩ d3
      clear hN
      refine for_step fun B hB => ?_
      simp only [wSs, wSt, wP, wEs, bAn, bOr, wOp, wCd, wIt, pr, prB, wTru, wB, wVar, wC, w1, w2, wL, wTup, wLst, wNew, wNil, wCons, wNot, wAnd, wOr, vNot, vAnd, vOr, wIf, wChain, wRet, wRetN, wIfS, wSeq, wSkip, wAsg, wPar, wTri, wPut, wDrop, wT, wTs, Ts.len, gN, gT, tupL, gNl, gCn, wSl, wSome, wNone, wEmp, wNewd, wNewd1, wCompT, wipeE, wFor, wComp, iR1, iSeq, Bo.o2, Co.o2, Bl.ol, Bt.ol, intD, subD, modD, fdivD, powD, boolD, ltD_int, mul_int, mul_tup, iEn, isND, ↓reduceIte, Bool.false_eq_true, List.length_cons, List.length_nil, Nat.reduceAdd, Nat.zero_add, sz_true, Nat.reduceLeDiff, eq_int, addL, List.cons_append, List.nil_append, ne_eq, reduceCtorEq, not_false_eq_true, not_true_eq_false, tru_bl, ex_cons, ex_two, ex_one, ex_i, ex_ij, ex_bl, ex_env, Bool.bne_false, Bool.bne_true, at3_0, at3_1, at3_2, seqx_tup, seqx_lst, negD, absD, addI, defl, lf1, Lf.d, List.getElem?_cons_zero, List.getElem?_cons_succ, List.set_cons_zero, List.set_cons_succ, Option.some.injEq, exists_eq_left', exists_eq_left, D.int.injEq, D.bl.injEq, D.tup.injEq, D.str.injEq, D.loc.injEq, D.lst.injEq, and_true, true_and, exists_and_left, exists_and_right, decide_eq_true_eq, Bool.not_eq_true', decide_eq_false_iff_not]
      refine ⟨by omega, by omega, ?_⟩
      rw [Int.toNat_natCast]
      refine forN_of (fun j ρ S3 => Dr p S S3 ∧ ∃ (R : Rc), ∃ x y c, ρ = [some (.loc p), some (.int s), some (.int r), some (.int w), some (.int m), some (.loc S2.length), x, y, c] ∧ S3[S2.length]? = some (.lst (R.map eSt)) ∧ R.length = j ∧ (∀ st ∈ R, st.length ≤ r.toNat ∧ ∀ w ∈ st, w.Ok m)) ?_ ?_ _ _ ?_
      · rintro ρ S3 ⟨d3, R, x, y, c, rfl, hf, hl, hR⟩
        exact fin3 _ _ _ _ R d3 hf hl hR
      · rintro j ρ S3 M hj ⟨d3, R, x', y, c, rfl, hf, hl, hR⟩ hM
        have hlt : S2.length < S3.length := by
          rcases Nat.lt_or_ge S2.length S3.length with u | u
          · exact u
          · rw [List.getElem?_eq_none u] at hf
            cases hf
        subst hB
        refine seq_one ?_
        simp only [wSs, wSt, wP, wEs, bAn, bOr, wOp, wCd, wIt, pr, prB, wTru, wB, wVar, wC, w1, w2, wL, wTup, wLst, wNew, wNil, wCons, wNot, wAnd, wOr, vNot, vAnd, vOr, wIf, wChain, wRet, wRetN, wIfS, wSeq, wSkip, wAsg, wPar, wTri, wPut, wDrop, wT, wTs, Ts.len, gN, gT, tupL, gNl, gCn, wSl, wSome, wNone, wEmp, wNewd, wNewd1, wCompT, wipeE, wFor, wComp, iR1, iSeq, Bo.o2, Co.o2, Bl.ol, Bt.ol, intD, subD, modD, fdivD, powD, boolD, ltD_int, mul_int, mul_tup, iEn, isND, ↓reduceIte, Bool.false_eq_true, List.length_cons, List.length_nil, Nat.reduceAdd, Nat.zero_add, sz_true, Nat.reduceLeDiff, eq_int, addL, List.cons_append, List.nil_append, ne_eq, reduceCtorEq, not_false_eq_true, not_true_eq_false, tru_bl, ex_cons, ex_two, ex_one, ex_i, ex_ij, ex_bl, ex_env, Bool.bne_false, Bool.bne_true, at3_0, at3_1, at3_2, seqx_tup, seqx_lst, negD, absD, addI, defl, lf1, Lf.d, List.getElem?_cons_zero, List.getElem?_cons_succ, List.set_cons_zero, List.set_cons_succ, Option.some.injEq, exists_eq_left', exists_eq_left, D.int.injEq, D.bl.injEq, D.tup.injEq, D.str.injEq, D.loc.injEq, D.lst.injEq, and_true, true_and, exists_and_left, exists_and_right, decide_eq_true_eq, Bool.not_eq_true', decide_eq_false_iff_not, h5, dipC_iff]
        refine ⟨⟨_, seq_loc hf⟩, by omega, by omega, d3.spr, fun j2 S4 ja jb d4 => ⟨by omega, by omega, ?_⟩⟩
        refine compL_of (I := fun l S5 acc => Dr p S3 S5 ∧ ∃ st : List Rw, acc = st.map eRw ∧ (∀ w ∈ st, w.Ok m) ∧ st.length + l.length = j2.toNat) ?_ ?_ _ _ _ ⟨d4, [], rfl, by simp, by rw [rngD_len]; simp⟩
        · rintro S5 acc ⟨d5, st, rfl, hst, hl5⟩
          have hf5 : S5[S2.length]? = some (.lst (R.map eSt)) := (d5.rest _ hfp hlt).trans hf
          rw [tup_lst, app_iff hf5]
          refine ⟨by rw [List.length_map]; omega, hM _ _ rfl ⟨(d3.trans d5).put hfp ?_, R ++ [st], _, _, _, rfl, ?_, ?_, ?_⟩⟩
          · exact Nat.le_trans d2.len (Nat.le_refl _)
          · rw [List.getElem?_set_self (Nat.lt_of_lt_of_le hlt d5.len), List.map_append]
            rfl
          · simp only [List.length_append, List.length_cons, List.length_nil]
            omega
          · intro st' h'
            rcases List.mem_append.mp h' with h' | h'
            · exact hR st' h'
            · rw [List.mem_singleton] at h'
              subst h'
              simp only [List.length_nil] at hl5
              exact ⟨by omega, hst⟩
        · rintro x2 xs2 S5 acc M2 ⟨d5, st, rfl, hst, hl5⟩ hM2
          simp only [wSs, wSt, wP, wEs, bAn, bOr, wOp, wCd, wIt, pr, prB, wTru, wB, wVar, wC, w1, w2, wL, wTup, wLst, wNew, wNil, wCons, wNot, wAnd, wOr, vNot, vAnd, vOr, wIf, wChain, wRet, wRetN, wIfS, wSeq, wSkip, wAsg, wPar, wTri, wPut, wDrop, wT, wTs, Ts.len, gN, gT, tupL, gNl, gCn, wSl, wSome, wNone, wEmp, wNewd, wNewd1, wCompT, wipeE, wFor, wComp, iR1, iSeq, Bo.o2, Co.o2, Bl.ol, Bt.ol, intD, subD, modD, fdivD, powD, boolD, ltD_int, mul_int, mul_tup, iEn, isND, ↓reduceIte, Bool.false_eq_true, List.length_cons, List.length_nil, Nat.reduceAdd, Nat.zero_add, sz_true, Nat.reduceLeDiff, eq_int, addL, List.cons_append, List.nil_append, ne_eq, reduceCtorEq, not_false_eq_true, not_true_eq_false, tru_bl, ex_cons, ex_two, ex_one, ex_i, ex_ij, ex_bl, ex_env, Bool.bne_false, Bool.bne_true, at3_0, at3_1, at3_2, seqx_tup, seqx_lst, negD, absD, addI, defl, lf1, Lf.d, List.getElem?_cons_zero, List.getElem?_cons_succ, List.set_cons_zero, List.set_cons_succ, Option.some.injEq, exists_eq_left', exists_eq_left, D.int.injEq, D.bl.injEq, D.tup.injEq, D.str.injEq, D.loc.injEq, D.lst.injEq, and_true, true_and, exists_and_left, exists_and_right, decide_eq_true_eq, Bool.not_eq_true', decide_eq_false_iff_not, h8, rowK_iff]
          refine ⟨by omega, by omega, d5.spr, fun w S6 ok d6 => hM2 _ _ rfl ⟨d5.trans d6, st ++ [w], by simp, ?_, ?_⟩⟩
          · intro u hu
            rcases List.mem_append.mp hu with hu | hu
            · exact hst u hu
            · rw [List.mem_singleton] at hu
              subst hu
              simpa using ok
          · simp only [List.length_append, List.length_cons, List.length_nil] at hl5 ⊢
            omega
      · exact ⟨d2.new, [], _, _, _, rfl, by simp, rfl, by simp⟩)
    simp only [wSs, wSt, wP, wEs, bAn, bOr, wOp, wCd, wIt, pr, prB, wTru, wB, wVar, wC, w1, w2, wL, wTup, wLst, wNew, wNil, wCons, wNot, wAnd, wOr, vNot, vAnd, vOr, wIf, wChain, wRet, wRetN, wIfS, wSeq, wSkip, wAsg, wPar, wTri, wPut, wDrop, wT, wTs, Ts.len, gN, gT, tupL, gNl, gCn, wSl, wSome, wNone, wEmp, wNewd, wNewd1, wCompT, wipeE, wFor, wComp, iR1, iSeq, Bo.o2, Co.o2, Bl.ol, Bt.ol, intD, subD, modD, fdivD, powD, boolD, ltD_int, mul_int, mul_tup, iEn, isND, ↓reduceIte, Bool.false_eq_true, List.length_cons, List.length_nil, Nat.reduceAdd, Nat.zero_add, sz_true, Nat.reduceLeDiff, eq_int, addL, List.cons_append, List.nil_append, ne_eq, reduceCtorEq, not_false_eq_true, not_true_eq_false, tru_bl, ex_cons, ex_two, ex_one, ex_i, ex_ij, ex_bl, ex_env, Bool.bne_false, Bool.bne_true, at3_0, at3_1, at3_2, seqx_tup, seqx_lst, negD, absD, addI, defl, lf1, Lf.d, List.getElem?_cons_zero, List.getElem?_cons_succ, List.set_cons_zero, List.set_cons_succ, Option.some.injEq, exists_eq_left', exists_eq_left, D.int.injEq, D.bl.injEq, D.tup.injEq, D.str.injEq, D.loc.injEq, D.lst.injEq, and_true, true_and, exists_and_left, exists_and_right, decide_eq_true_eq, Bool.not_eq_true', decide_eq_false_iff_not, h5, h10, dipC_iff, pairedK_iff]
    split
    · split
      · split
        · refine ⟨by omega, by omega, d1.spr, fun k S2 ka kb d2 => ⟨by omega, by omega, d2.spr, fun k2 S3 ka2 kb2 d3 => ⟨by omega, by omega, d3.spr, fun k3 S4 ka3 kb3 d4 => ⟨by omega, by omega, fun S5 ex => ?_⟩⟩⟩⟩
          exact q _ S5 ((paired_ok (a := 1 + k) (b := 1 + k + 1 + k2) (n := (2 + k3).toNat) (by omega) (by omega) (by omega) (by omega)).mono (by omega) (by omega)) ((((d1.trans d2).trans d3).trans d4).ext ex)
        · exact fin2
      · exact fin2
    · exact fin2)
  simp only [wSs, wSt, wP, wEs, bAn, bOr, wOp, wCd, wIt, pr, prB, wTru, wB, wVar, wC, w1, w2, wL, wTup, wLst, wNew, wNil, wCons, wNot, wAnd, wOr, vNot, vAnd, vOr, wIf, wChain, wRet, wRetN, wIfS, wSeq, wSkip, wAsg, wPar, wTri, wPut, wDrop, wT, wTs, Ts.len, gN, gT, tupL, gNl, gCn, wSl, wSome, wNone, wEmp, wNewd, wNewd1, wCompT, wipeE, wFor, wComp, iR1, iSeq, Bo.o2, Co.o2, Bl.ol, Bt.ol, intD, subD, modD, fdivD, powD, boolD, ltD_int, mul_int, mul_tup, iEn, isND, ↓reduceIte, Bool.false_eq_true, List.length_cons, List.length_nil, Nat.reduceAdd, Nat.zero_add, sz_true, Nat.reduceLeDiff, eq_int, addL, List.cons_append, List.nil_append, ne_eq, reduceCtorEq, not_false_eq_true, not_true_eq_false, tru_bl, ex_cons, ex_two, ex_one, ex_i, ex_ij, ex_bl, ex_env, Bool.bne_false, Bool.bne_true, at3_0, at3_1, at3_2, seqx_tup, seqx_lst, negD, absD, addI, defl, lf1, Lf.d, List.getElem?_cons_zero, List.getElem?_cons_succ, List.set_cons_zero, List.set_cons_succ, Option.some.injEq, exists_eq_left', exists_eq_left, D.int.injEq, D.bl.injEq, D.tup.injEq, D.str.injEq, D.loc.injEq, D.lst.injEq, and_true, true_and, exists_and_left, exists_and_right, decide_eq_true_eq, Bool.not_eq_true', decide_eq_false_iff_not, h5, h9, dipC_iff, windowK_iff]
  split
  · refine ⟨by omega, by omega, d1.spr, fun k S2 ka kb d2 => q _ S2 ((window_ok (n := 1 + k) (by omega) (by omega)).mono (by omega) (by omega)) (d1.trans d2)⟩
  · exact fin1
end Pv

namespace Pv
open PySem L2 PySem.Spec PyProof.Rows
theorem atI_nat {α : Type} {xs : List α} {k : Nat} {x : α} (h : xs[k]? = some x) : atI xs (k : Int) = some x := at_nat (by omega) (by simpa using h)
theorem at2_0 {a b : D} : atI [a, b] 0 = some a := rfl
theorem at2_1 {a b : D} : atI [a, b] 1 = some b := rfl
theorem at4_0 {a b c d : D} : atI [a, b, c, d] 0 = some a := rfl
theorem at4_1 {a b c d : D} : atI [a, b, c, d] 1 = some b := rfl
theorem at4_2 {a b c d : D} : atI [a, b, c, d] 2 = some c := rfl
theorem at4_3 {a b c d : D} : atI [a, b, c, d] 3 = some d := rfl
theorem isNon_eO {o : Option Int} : isNon (eO o) = o.isNone := by cases o <;> rfl
theorem isNon_eA {o : Option (Option Int × Option Int)} : isNon (eA o) = o.isNone := by cases o <;> rfl
theorem find_idx {α : Type} (p : α → Bool) : ∀ l : List α, l.find? p = (l.findIdx? p).bind fun k => l[k]?
  | [] => rfl
  | x :: xs => by
    rw [List.find?_cons, List.findIdx?_cons]
    cases h : p x
    · simp only [find_idx p xs, Bool.false_eq_true, ↓reduceIte]
      cases xs.findIdx? p <;> simp
    · simp
/-- stp by the index of the counting row -/
theorem stp_none {R : Rc} {r : Rs} {n : Int} (h : cnt (R.st r.1) r.2 n = none) : stp R r n = (false, r) := by
  unfold stp
  unfold cnt at h
  rw [find_idx, h]
  rfl
theorem stp_some {R : Rc} {r : Rs} {n : Int} {k : Nat} (h : cnt (R.st r.1) r.2 n = some k) : ∃ w, (R.st r.1)[k]? = some w ∧ stp R r n = w.done r n := by
  unfold cnt at h
  have hl : k < (R.st r.1).length := by
    obtain ⟨h1, _⟩ := List.findIdx?_eq_some_iff_getElem.mp h
    exact h1
  refine ⟨(R.st r.1)[k], List.getElem?_eq_getElem hl, ?_⟩
  unfold stp
  rw [find_idx, h]
  simp only [Option.bind_some]
  rw [List.getElem?_eq_getElem hl]
theorem wp_lies_in (Γ : Gm) : ∀ ds S Q, liesK ds S Q → wSs Γ b_p_lies_in (inE n_p_lies_in ds) S { nx := fun _ S' => Q .non S', rt := Q } := by
  rintro _ S Q ⟨n, ⟨a, b⟩, rfl, q⟩
  show wSs Γ b_p_lies_in [some (.int n), some (eP (a, b)), none, none] S _
  cases a <;> cases b <;> simp only [wSs, wSt, wP, wEs, bAn, bOr, wOp, wCd, wIt, pr, prB, wTru, wB, wVar, wC, w1, w2, wL, wTup, wLst, wNew, wNil, wCons, wNot, wAnd, wOr, vNot, vAnd, vOr, wIf, wChain, wRet, wRetN, wIfS, wSeq, wSkip, wAsg, wPar, wTri, wPut, wDrop, wT, wTs, Ts.len, gN, gT, tupL, gNl, gCn, wSl, wSome, wNone, wEmp, wNewd, wNewd1, wCompT, wipeE, wFor, wComp, iR1, iSeq, Bo.o2, Co.o2, Bl.ol, Bt.ol, intD, subD, modD, fdivD, powD, boolD, ltD_int, mul_int, mul_tup, iEn, isND, ↓reduceIte, Bool.false_eq_true, List.length_cons, List.length_nil, Nat.reduceAdd, Nat.zero_add, sz_true, Nat.reduceLeDiff, eq_int, addL, List.cons_append, List.nil_append, ne_eq, reduceCtorEq, not_false_eq_true, not_true_eq_false, tru_bl, ex_cons, ex_two, ex_one, ex_i, ex_ij, ex_bl, ex_env, Bool.bne_false, Bool.bne_true, at3_0, at3_1, at3_2, seqx_tup, seqx_lst, negD, absD, addI, defl, lf1, Lf.d, List.getElem?_cons_zero, List.getElem?_cons_succ, List.set_cons_zero, List.set_cons_succ, Option.some.injEq, exists_eq_left', exists_eq_left, D.int.injEq, D.bl.injEq, D.tup.injEq, D.str.injEq, D.loc.injEq, D.lst.injEq, and_true, true_and, exists_and_left, exists_and_right, decide_eq_true_eq, Bool.not_eq_true', decide_eq_false_iff_not, b_p_lies_in, eP, eO, isNon] <;> simp only [lies, Bool.and_true, Bool.true_and] at q <;> first | exact q | (split <;> simp_all)
theorem wp_lies (Γ : Gm) : ∀ ds S Q, liesK ds S Q → wSs Γ b_lies (inE n_lies ds) S { nx := fun _ S' => Q .non S', rt := Q } := by
  rintro _ S Q ⟨n, ⟨a, b⟩, rfl, q⟩
  show wSs Γ b_lies [some (.int n), some (eP (a, b))] S _
  cases a <;> cases b <;> simp only [wSs, wSt, wP, wEs, bAn, bOr, wOp, wCd, wIt, pr, prB, wTru, wB, wVar, wC, w1, w2, wL, wTup, wLst, wNew, wNil, wCons, wNot, wAnd, wOr, vNot, vAnd, vOr, wIf, wChain, wRet, wRetN, wIfS, wSeq, wSkip, wAsg, wPar, wTri, wPut, wDrop, wT, wTs, Ts.len, gN, gT, tupL, gNl, gCn, wSl, wSome, wNone, wEmp, wNewd, wNewd1, wCompT, wipeE, wFor, wComp, iR1, iSeq, Bo.o2, Co.o2, Bl.ol, Bt.ol, intD, subD, modD, fdivD, powD, boolD, ltD_int, mul_int, mul_tup, iEn, isND, ↓reduceIte, Bool.false_eq_true, List.length_cons, List.length_nil, Nat.reduceAdd, Nat.zero_add, sz_true, Nat.reduceLeDiff, eq_int, addL, List.cons_append, List.nil_append, ne_eq, reduceCtorEq, not_false_eq_true, not_true_eq_false, tru_bl, ex_cons, ex_two, ex_one, ex_i, ex_ij, ex_bl, ex_env, Bool.bne_false, Bool.bne_true, at3_0, at3_1, at3_2, seqx_tup, seqx_lst, negD, absD, addI, defl, lf1, Lf.d, List.getElem?_cons_zero, List.getElem?_cons_succ, List.set_cons_zero, List.set_cons_succ, Option.some.injEq, exists_eq_left', exists_eq_left, D.int.injEq, D.bl.injEq, D.tup.injEq, D.str.injEq, D.loc.injEq, D.lst.injEq, and_true, true_and, exists_and_left, exists_and_right, decide_eq_true_eq, Bool.not_eq_true', decide_eq_false_iff_not, b_lies, eP, eO, isNon, ix_tup, at2_0, at2_1] <;> simp only [lies, Bool.and_true, Bool.true_and] at q <;> first | exact q | (split <;> simp_all)
theorem wp_comes_after (Γ : Gm) {lies_in : Nat} (h1 : Γ.fn lies_in = liesK) : ∀ ds S Q, afterK ds S Q → wSs Γ (b_p__comes_after lies_in) (inE n_p__comes_after ds) S { nx := fun _ S' => Q .non S', rt := Q } := by
  rintro _ S Q ⟨⟨s, g⟩, n, a, rfl, q⟩
  show wSs Γ (b_p__comes_after lies_in) [some (eRs (s, g)), some (.int n), some (eA a)] S _
  cases a with
  | none => cases g <;> simp only [wSs, wSt, wP, wEs, bAn, bOr, wOp, wCd, wIt, pr, prB, wTru, wB, wVar, wC, w1, w2, wL, wTup, wLst, wNew, wNil, wCons, wNot, wAnd, wOr, vNot, vAnd, vOr, wIf, wChain, wRet, wRetN, wIfS, wSeq, wSkip, wAsg, wPar, wTri, wPut, wDrop, wT, wTs, Ts.len, gN, gT, tupL, gNl, gCn, wSl, wSome, wNone, wEmp, wNewd, wNewd1, wCompT, wipeE, wFor, wComp, iR1, iSeq, Bo.o2, Co.o2, Bl.ol, Bt.ol, intD, subD, modD, fdivD, powD, boolD, ltD_int, mul_int, mul_tup, iEn, isND, ↓reduceIte, Bool.false_eq_true, List.length_cons, List.length_nil, Nat.reduceAdd, Nat.zero_add, sz_true, Nat.reduceLeDiff, eq_int, addL, List.cons_append, List.nil_append, ne_eq, reduceCtorEq, not_false_eq_true, not_true_eq_false, tru_bl, ex_cons, ex_two, ex_one, ex_i, ex_ij, ex_bl, ex_env, Bool.bne_false, Bool.bne_true, at3_0, at3_1, at3_2, seqx_tup, seqx_lst, negD, absD, addI, defl, lf1, Lf.d, List.getElem?_cons_zero, List.getElem?_cons_succ, List.set_cons_zero, List.set_cons_succ, Option.some.injEq, exists_eq_left', exists_eq_left, D.int.injEq, D.bl.injEq, D.tup.injEq, D.str.injEq, D.loc.injEq, D.lst.injEq, and_true, true_and, exists_and_left, exists_and_right, decide_eq_true_eq, Bool.not_eq_true', decide_eq_false_iff_not, b_p__comes_after, eA, isNon, eRs] <;> simpa [aftB] using q
  | some p =>
    cases g with
    | none => 
      simp only [wSs, wSt, wP, wEs, bAn, bOr, wOp, wCd, wIt, pr, prB, wTru, wB, wVar, wC, w1, w2, wL, wTup, wLst, wNew, wNil, wCons, wNot, wAnd, wOr, vNot, vAnd, vOr, wIf, wChain, wRet, wRetN, wIfS, wSeq, wSkip, wAsg, wPar, wTri, wPut, wDrop, wT, wTs, Ts.len, gN, gT, tupL, gNl, gCn, wSl, wSome, wNone, wEmp, wNewd, wNewd1, wCompT, wipeE, wFor, wComp, iR1, iSeq, Bo.o2, Co.o2, Bl.ol, Bt.ol, intD, subD, modD, fdivD, powD, boolD, ltD_int, mul_int, mul_tup, iEn, isND, ↓reduceIte, Bool.false_eq_true, List.length_cons, List.length_nil, Nat.reduceAdd, Nat.zero_add, sz_true, Nat.reduceLeDiff, eq_int, addL, List.cons_append, List.nil_append, ne_eq, reduceCtorEq, not_false_eq_true, not_true_eq_false, tru_bl, ex_cons, ex_two, ex_one, ex_i, ex_ij, ex_bl, ex_env, Bool.bne_false, Bool.bne_true, at3_0, at3_1, at3_2, seqx_tup, seqx_lst, negD, absD, addI, defl, lf1, Lf.d, List.getElem?_cons_zero, List.getElem?_cons_succ, List.set_cons_zero, List.set_cons_succ, Option.some.injEq, exists_eq_left', exists_eq_left, D.int.injEq, D.bl.injEq, D.tup.injEq, D.str.injEq, D.loc.injEq, D.lst.injEq, and_true, true_and, exists_and_left, exists_and_right, decide_eq_true_eq, Bool.not_eq_true', decide_eq_false_iff_not, b_p__comes_after, eA, eP, isNon, eRs, len_tup]
      simpa [aftB] using q
    | some g =>
      simp only [wSs, wSt, wP, wEs, bAn, bOr, wOp, wCd, wIt, pr, prB, wTru, wB, wVar, wC, w1, w2, wL, wTup, wLst, wNew, wNil, wCons, wNot, wAnd, wOr, vNot, vAnd, vOr, wIf, wChain, wRet, wRetN, wIfS, wSeq, wSkip, wAsg, wPar, wTri, wPut, wDrop, wT, wTs, Ts.len, gN, gT, tupL, gNl, gCn, wSl, wSome, wNone, wEmp, wNewd, wNewd1, wCompT, wipeE, wFor, wComp, iR1, iSeq, Bo.o2, Co.o2, Bl.ol, Bt.ol, intD, subD, modD, fdivD, powD, boolD, ltD_int, mul_int, mul_tup, iEn, isND, ↓reduceIte, Bool.false_eq_true, List.length_cons, List.length_nil, Nat.reduceAdd, Nat.zero_add, sz_true, Nat.reduceLeDiff, eq_int, addL, List.cons_append, List.nil_append, ne_eq, reduceCtorEq, not_false_eq_true, not_true_eq_false, tru_bl, ex_cons, ex_two, ex_one, ex_i, ex_ij, ex_bl, ex_env, Bool.bne_false, Bool.bne_true, at3_0, at3_1, at3_2, seqx_tup, seqx_lst, negD, absD, addI, defl, lf1, Lf.d, List.getElem?_cons_zero, List.getElem?_cons_succ, List.set_cons_zero, List.set_cons_succ, Option.some.injEq, exists_eq_left', exists_eq_left, D.int.injEq, D.bl.injEq, D.tup.injEq, D.str.injEq, D.loc.injEq, D.lst.injEq, and_true, true_and, exists_and_left, exists_and_right, decide_eq_true_eq, Bool.not_eq_true', decide_eq_false_iff_not, b_p__comes_after, eA, eP, isNon, eRs, len_tup, h1, ix_tup, at2_1]
      simp only [aftB] at q
      have := liesK_iff (p := p) q
      unfold eP at this
      simpa using this
theorem at_st {R : Rc} {s : Nat} (h : s < R.length) : atI (R.map eSt) (s : Int) = some (eSt (R.st s)) := by
  refine atI_nat ?_
  unfold Rc.st
  rw [List.getElem?_map, List.getD_eq_getElem?_getD, List.getElem?_eq_getElem h]
  rfl
theorem ix_eRs0 {r : Rs} {S : Store} {Q : QE} : ixD (eRs r) (.int 0) S Q ↔ Q (.int r.1) S := by
  obtain ⟨s, g⟩ := r
  cases g <;> simp [eRs, ix_tup, at2_0] <;> exact ⟨fun ⟨x, e, q⟩ => (by cases e; exact q), fun q => ⟨_, rfl, q⟩⟩
theorem ix_eRs1 {s : Nat} {g : Int} {S : Store} {Q : QE} : ixD (eRs (s, some g)) (.int 1) S Q ↔ Q (.int g) S := by
  simp only [eRs, ix_tup, at2_1]
  simp
theorem len_eRs {r : Rs} {S : Store} {Q : QE} : lenD [eRs r] S Q ↔ Q (.int (if r.2.isSome then 2 else 1)) S := by
  obtain ⟨s, g⟩ := r
  cases g <;> simp [eRs, len_tup]
theorem ix_eRc {R : Rc} {s : Nat} (h : s < R.length) {S : Store} {Q : QE} : ixD (eRc R) (.int s) S Q ↔ Q (eSt (R.st s)) S := by
  unfold eRc
  rw [ix_tup, at_st h]
  simp
theorem ix_eSt {rs : List Rw} {k : Nat} {w : Rw} (h : rs[k]? = some w) {S : Store} {Q : QE} : ixD (eSt rs) (.int k) S Q ↔ Q (eRw w) S := by
  unfold eSt
  rw [ix_tup, atI_nat (x := eRw w) (by rw [List.getElem?_map, h]; rfl)]
  simp
theorem len_eSt {rs : List Rw} {S : Store} {Q : QE} : lenD [eSt rs] S Q ↔ Q (.int rs.length) S := by
  simp [eSt, len_tup]
theorem len_eRc {R : Rc} {S : Store} {Q : QE} : lenD [eRc R] S Q ↔ Q (.int R.length) S := by
  simp [eRc, len_tup]
theorem seqx_eSt {rs : List Rw} {S : Store} : seqX S (eSt rs) = some (rs.map eRw) := rfl
theorem seqx_eRc {R : Rc} {S : Store} : seqX S (eRc R) = some (R.map eSt) := rfl
theorem ix_eRw0 {w : Rw} {S : Store} {Q : QE} : ixD (eRw w) (.int 0) S Q ↔ Q (eP (w.lo, w.hi)) S := by simp [eRw, ix_tup, at4_0]
theorem ix_eRw1 {w : Rw} {S : Store} {Q : QE} : ixD (eRw w) (.int 1) S Q ↔ Q (eA w.af) S := by simp [eRw, ix_tup, at4_1]
theorem ix_eRw2 {w : Rw} {S : Store} {Q : QE} : ixD (eRw w) (.int 2) S Q ↔ Q (.str w.dd.s) S := by simp [eRw, ix_tup, at4_2]
theorem ix_eRw3 {w : Rw} {S : Store} {Q : QE} : ixD (eRw w) (.int 3) S Q ↔ Q (.int w.nx) S := by simp [eRw, ix_tup, at4_3]
theorem ix_eP0 {p : Option Int × Option Int} {S : Store} {Q : QE} : ixD (eP p) (.int 0) S Q ↔ Q (eO p.1) S := by simp [eP, ix_tup, at2_0]
theorem ix_eP1 {p : Option Int × Option Int} {S : Store} {Q : QE} : ixD (eP p) (.int 1) S Q ↔ Q (eO p.2) S := by simp [eP, ix_tup, at2_1]
/-- a loop over enumerate of a list of data -/
theorem forE_of {g : WG} {tb : WS} {src : Store → Option (List D)} {all : List D} {E : En} {xs : List D} (I : Nat → Env → Store → Prop) (h0 : ∀ ρ S, I xs.length ρ S → E.nx ρ S)
    (h1 : ∀ k x ρ S (N : Env → Store → Prop), xs[k]? = some x → I k ρ S → (∀ ρ2 S2, src S2 = some all → I (k + 1) ρ2 S2 → N ρ2 S2) → g (.tup [.int k, x]) ρ S fun ρ1 S1 => tb ρ1 S1 { rt := E.rt, bk := E.nx, nx := N, ct := N }) : ∀ ρ S, I 0 ρ S → forL g tb src all (enD 0 xs) ρ S E := by
  intro ρ S h
  refine forL_of (I := fun l ρ S => ∃ k, k ≤ xs.length ∧ l = enD k (xs.drop k) ∧ I k ρ S) ?_ ?_ _ _ _ ⟨0, Nat.zero_le _, rfl, h⟩
  · rintro ρ S ⟨k, hk, e, i⟩
    have : k = xs.length := by
      cases h : xs.drop k with
      | nil =>
        have := congrArg List.length h
        simp only [List.length_drop, List.length_nil] at this
        omega
      | cons y ys =>
        rw [h] at e
        cases e
    subst this
    exact h0 ρ S i
  · rintro x ys ρ S N ⟨k, hk, e, i⟩ hN
    cases h : xs.drop k with
    | nil =>
      rw [h] at e
      cases e
    | cons y zs =>
      rw [h] at e
      cases e
      have hg : xs[k]? = some y := by
        have := congrArg (·[0]?) h
        simpa using this
      have hlt := (List.getElem?_eq_some_iff.mp hg).1
      refine h1 k y ρ S N hg i fun ρ2 S2 hs hi => hN ρ2 S2 hs ⟨k + 1, by omega, ?_, hi⟩
      have hd : xs.drop (k + 1) = zs := by
        rw [← List.drop_drop, h]
        rfl
      rw [hd]
theorem cnt_done {rs : List Rw} {g : Option Int} {n : Int} (h : ∀ (j : Nat) (w : Rw), rs[j]? = some w → w.so g n = false) : cnt rs g n = none := by
  unfold cnt
  rw [List.findIdx?_eq_none_iff]
  intro w hw
  obtain ⟨j, hj⟩ := List.getElem?_of_mem hw
  exact h j w hj
theorem cnt_at {rs : List Rw} {g : Option Int} {n : Int} {k : Nat} {w : Rw} (hk : rs[k]? = some w) (hw : w.so g n = true) (h : ∀ (j : Nat) (w : Rw), j < k → rs[j]? = some w → w.so g n = false) : cnt rs g n = some k := by
  unfold cnt
  rw [List.findIdx?_eq_some_iff_getElem]
  obtain ⟨hl, rfl⟩ := List.getElem?_eq_some_iff.mp hk
  exact ⟨hl, hw, fun j hj => by rw [h j _ hj (List.getElem?_eq_getElem _)]; decide⟩
theorem st_len {R : Rc} (ok : R.Ok 100 100) {s : Nat} (h : s < R.length) : (R.st s).length ≤ 100 := ok.ln _ (Rc.st_mem h)
theorem sl_eRw {w : Rw} {S : Store} {Q : QE} : slD (eRw w) none (some 2) S Q ↔ Q (.tup [eP (w.lo, w.hi), eA w.af]) S := Iff.rfl
theorem sl_eRw' {w : Rw} {S : Store} {Q : QE} : slD (eRw w) (some 2) none S Q ↔ Q (.tup [.str w.dd.s, .int w.nx]) S := Iff.rfl
theorem sl_eRs {r : Rs} {S : Store} {Q : QE} : slD (eRs r) (some 1) none S Q ↔ Q (.tup (match r.2 with | none => [] | some g => [.int g])) S := by
  obtain ⟨s, g⟩ := r
  cases g <;> exact Iff.rfl
theorem and_if {a b : Bool} {Q : Bool → Prop} : (if a = true then Q b else Q false) ↔ Q (a && b) := by cases a <;> simp
theorem or_if {a b : Bool} {Q : Bool → Prop} : (if a = true then Q true else Q b) ↔ Q (a || b) := by cases a <;> simp
theorem wp_counting_row (Γ : Gm) {lies_in after : Nat} (h1 : Γ.fn lies_in = liesK) (h2 : Γ.fn after = afterK) : ∀ ds S Q, countK ds S Q → wSs Γ (b_p_counting_row lies_in after) (inE n_p_counting_row ds) S { nx := fun _ S' => Q .non S', rt := Q } := by
  rintro _ S Q ⟨R, r, n, rfl, ok, hr, q⟩
  show wSs Γ (b_p_counting_row lies_in after) [some (eRc R), some (eRs r), some (.int n), none, none] S _
  refine seq_gen fun N hN => ?_
  have fin : ∀ a b, cnt (R.st r.1) r.2 n = none → N [some (eRc R), some (eRs r), some (.int n), a, b] S := by
    intro a b h
    refine hN _ _ (seq_one ?_)
    rw [h] at q
    simp only [wSs, wSt, wP, wEs, bAn, bOr, wOp, wCd, wIt, pr, prB, wTru, wB, wVar, wC, w1, w2, wL, wTup, wLst, wNew, wNil, wCons, wNot, wAnd, wOr, vNot, vAnd, vOr, wIf, wChain, wRet, wRetN, wIfS, wSeq, wSkip, wAsg, wPar, wTri, wPut, wDrop, wT, wTs, Ts.len, gN, gT, tupL, gNl, gCn, wSl, wSome, wNone, wEmp, wNewd, wNewd1, wCompT, wipeE, wFor, wComp, iR1, iSeq, Bo.o2, Co.o2, Bl.ol, Bt.ol, intD, subD, modD, fdivD, powD, boolD, ltD_int, mul_int, mul_tup, iEn, isND, ↓reduceIte, Bool.false_eq_true, List.length_cons, List.length_nil, Nat.reduceAdd, Nat.zero_add, sz_true, Nat.reduceLeDiff, eq_int, addL, List.cons_append, List.nil_append, ne_eq, reduceCtorEq, not_false_eq_true, not_true_eq_false, tru_bl, ex_cons, ex_two, ex_one, ex_i, ex_ij, ex_bl, ex_env, Bool.bne_false, Bool.bne_true, at3_0, at3_1, at3_2, seqx_tup, seqx_lst, negD, absD, addI, defl, lf1, Lf.d, List.getElem?_cons_zero, List.getElem?_cons_succ, List.set_cons_zero, List.set_cons_succ, Option.some.injEq, exists_eq_left', exists_eq_left, D.int.injEq, D.bl.injEq, D.tup.injEq, D.str.injEq, D.loc.injEq, D.lst.injEq, and_true, true_and, exists_and_left, exists_and_right, decide_eq_true_eq, Bool.not_eq_true', decide_eq_false_iff_not]
    exact q
  clear hN
  refine for_step fun B hB => ?_
  simp only [wSs, wSt, wP, wEs, bAn, bOr, wOp, wCd, wIt, pr, prB, wTru, wB, wVar, wC, w1, w2, wL, wTup, wLst, wNew, wNil, wCons, wNot, wAnd, wOr, vNot, vAnd, vOr, wIf, wChain, wRet, wRetN, wIfS, wSeq, wSkip, wAsg, wPar, wTri, wPut, wDrop, wT, wTs, Ts.len, gN, gT, tupL, gNl, gCn, wSl, wSome, wNone, wEmp, wNewd, wNewd1, wCompT, wipeE, wFor, wComp, iR1, iSeq, Bo.o2, Co.o2, Bl.ol, Bt.ol, intD, subD, modD, fdivD, powD, boolD, ltD_int, mul_int, mul_tup, iEn, isND, ↓reduceIte, Bool.false_eq_true, List.length_cons, List.length_nil, Nat.reduceAdd, Nat.zero_add, sz_true, Nat.reduceLeDiff, eq_int, addL, List.cons_append, List.nil_append, ne_eq, reduceCtorEq, not_false_eq_true, not_true_eq_false, tru_bl, ex_cons, ex_two, ex_one, ex_i, ex_ij, ex_bl, ex_env, Bool.bne_false, Bool.bne_true, at3_0, at3_1, at3_2, seqx_tup, seqx_lst, negD, absD, addI, defl, lf1, Lf.d, List.getElem?_cons_zero, List.getElem?_cons_succ, List.set_cons_zero, List.set_cons_succ, Option.some.injEq, exists_eq_left', exists_eq_left, D.int.injEq, D.bl.injEq, D.tup.injEq, D.str.injEq, D.loc.injEq, D.lst.injEq, and_true, true_and, exists_and_left, exists_and_right, decide_eq_true_eq, Bool.not_eq_true', decide_eq_false_iff_not, ix_eRs0, ix_eRc hr, seqx_eSt]
  refine forE_of (fun k ρ S' => S' = S ∧ (∃ a b, ρ = [some (eRc R), some (eRs r), some (.int n), a, b]) ∧ ∀ (j : Nat) (w : Rw), j < k → (R.st r.1)[j]? = some w → w.so r.2 n = false) ?_ ?_ _ _ ⟨rfl, ⟨_, _, rfl⟩, fun j w h => absurd h (Nat.not_lt_zero _)⟩
  · rintro ρ S' ⟨rfl, ⟨a, b, rfl⟩, hh⟩
    refine fin _ _ (cnt_done fun j w hj => hh j w ?_ hj)
    rw [List.length_map]
    exact (List.getElem?_eq_some_iff.mp hj).1
  · rintro k x ρ S' M hk ⟨rfl, ⟨a, b, rfl⟩, hh⟩ hM
    rw [List.getElem?_map, Option.map_eq_some_iff] at hk
    obtain ⟨w, hw, rfl⟩ := hk
    subst hB
    have no : w.so r.2 n = false → M [some (eRc R), some (eRs r), some (.int n), some (.int k), some (eRw w)] S' := fun hs => hM _ _ rfl ⟨rfl, ⟨_, _, rfl⟩, fun j v hj hv => by
      rcases Nat.lt_succ_iff_lt_or_eq.mp hj with h | h
      · exact hh j v h hv
      · subst h
        rw [hw] at hv
        cases hv
        exact hs⟩
    simp only [wSs, wSt, wP, wEs, bAn, bOr, wOp, wCd, wIt, pr, prB, wTru, wB, wVar, wC, w1, w2, wL, wTup, wLst, wNew, wNil, wCons, wNot, wAnd, wOr, vNot, vAnd, vOr, wIf, wChain, wRet, wRetN, wIfS, wSeq, wSkip, wAsg, wPar, wTri, wPut, wDrop, wT, wTs, Ts.len, gN, gT, tupL, gNl, gCn, wSl, wSome, wNone, wEmp, wNewd, wNewd1, wCompT, wipeE, wFor, wComp, iR1, iSeq, Bo.o2, Co.o2, Bl.ol, Bt.ol, intD, subD, modD, fdivD, powD, boolD, ltD_int, mul_int, mul_tup, iEn, isND, ↓reduceIte, Bool.false_eq_true, List.length_cons, List.length_nil, Nat.reduceAdd, Nat.zero_add, sz_true, Nat.reduceLeDiff, eq_int, addL, List.cons_append, List.nil_append, ne_eq, reduceCtorEq, not_false_eq_true, not_true_eq_false, tru_bl, ex_cons, ex_two, ex_one, ex_i, ex_ij, ex_bl, ex_env, Bool.bne_false, Bool.bne_true, at3_0, at3_1, at3_2, seqx_tup, seqx_lst, negD, absD, addI, defl, lf1, Lf.d, List.getElem?_cons_zero, List.getElem?_cons_succ, List.set_cons_zero, List.set_cons_succ, Option.some.injEq, exists_eq_left', exists_eq_left, D.int.injEq, D.bl.injEq, D.tup.injEq, D.str.injEq, D.loc.injEq, D.lst.injEq, and_true, true_and, exists_and_left, exists_and_right, decide_eq_true_eq, Bool.not_eq_true', decide_eq_false_iff_not, ix_eRw0, ix_eRw1, h1, h2]
    refine liesK_iff ?_
    simp only [wSs, wSt, wP, wEs, bAn, bOr, wOp, wCd, wIt, pr, prB, wTru, wB, wVar, wC, w1, w2, wL, wTup, wLst, wNew, wNil, wCons, wNot, wAnd, wOr, vNot, vAnd, vOr, wIf, wChain, wRet, wRetN, wIfS, wSeq, wSkip, wAsg, wPar, wTri, wPut, wDrop, wT, wTs, Ts.len, gN, gT, tupL, gNl, gCn, wSl, wSome, wNone, wEmp, wNewd, wNewd1, wCompT, wipeE, wFor, wComp, iR1, iSeq, Bo.o2, Co.o2, Bl.ol, Bt.ol, intD, subD, modD, fdivD, powD, boolD, ltD_int, mul_int, mul_tup, iEn, isND, ↓reduceIte, Bool.false_eq_true, List.length_cons, List.length_nil, Nat.reduceAdd, Nat.zero_add, sz_true, Nat.reduceLeDiff, eq_int, addL, List.cons_append, List.nil_append, ne_eq, reduceCtorEq, not_false_eq_true, not_true_eq_false, tru_bl, ex_cons, ex_two, ex_one, ex_i, ex_ij, ex_bl, ex_env, Bool.bne_false, Bool.bne_true, at3_0, at3_1, at3_2, seqx_tup, seqx_lst, negD, absD, addI, defl, lf1, Lf.d, List.getElem?_cons_zero, List.getElem?_cons_succ, List.set_cons_zero, List.set_cons_succ, Option.some.injEq, exists_eq_left', exists_eq_left, D.int.injEq, D.bl.injEq, D.tup.injEq, D.str.injEq, D.loc.injEq, D.lst.injEq, and_true, true_and, exists_and_left, exists_and_right, decide_eq_true_eq, Bool.not_eq_true', decide_eq_false_iff_not]
    have so : w.so r.2 n = (lies n (w.lo, w.hi) && aftB w.af r.2 n) := rfl
    split
    · rename_i hl
      refine afterK_of ?_
      simp only [wSs, wSt, wP, wEs, bAn, bOr, wOp, wCd, wIt, pr, prB, wTru, wB, wVar, wC, w1, w2, wL, wTup, wLst, wNew, wNil, wCons, wNot, wAnd, wOr, vNot, vAnd, vOr, wIf, wChain, wRet, wRetN, wIfS, wSeq, wSkip, wAsg, wPar, wTri, wPut, wDrop, wT, wTs, Ts.len, gN, gT, tupL, gNl, gCn, wSl, wSome, wNone, wEmp, wNewd, wNewd1, wCompT, wipeE, wFor, wComp, iR1, iSeq, Bo.o2, Co.o2, Bl.ol, Bt.ol, intD, subD, modD, fdivD, powD, boolD, ltD_int, mul_int, mul_tup, iEn, isND, ↓reduceIte, Bool.false_eq_true, List.length_cons, List.length_nil, Nat.reduceAdd, Nat.zero_add, sz_true, Nat.reduceLeDiff, eq_int, addL, List.cons_append, List.nil_append, ne_eq, reduceCtorEq, not_false_eq_true, not_true_eq_false, tru_bl, ex_cons, ex_two, ex_one, ex_i, ex_ij, ex_bl, ex_env, Bool.bne_false, Bool.bne_true, at3_0, at3_1, at3_2, seqx_tup, seqx_lst, negD, absD, addI, defl, lf1, Lf.d, List.getElem?_cons_zero, List.getElem?_cons_succ, List.set_cons_zero, List.set_cons_succ, Option.some.injEq, exists_eq_left', exists_eq_left, D.int.injEq, D.bl.injEq, D.tup.injEq, D.str.injEq, D.loc.injEq, D.lst.injEq, and_true, true_and, exists_and_left, exists_and_right, decide_eq_true_eq, Bool.not_eq_true', decide_eq_false_iff_not]
      split
      · rename_i ha
        rw [cnt_at hw (by rw [so, hl, ha]; rfl) hh] at q
        exact q
      · rename_i ha
        exact no (by rw [so, hl]; simpa using ha)
    · rename_i hl
      exact no (by rw [so]; simp [hl])
theorem wp_counting (Γ : Gm) {lies_ : Nat} (h1 : Γ.fn lies_ = liesK) : ∀ ds S Q, countK ds S Q → wSs Γ (b_counting lies_) (inE n_counting ds) S { nx := fun _ S' => Q .non S', rt := Q } := by
  rintro _ S Q ⟨R, r, n, rfl, ok, hr, q⟩
  show wSs Γ (b_counting lies_) [some (eRc R), some (eRs r), some (.int n), none, none, none] S _
  refine seq_gen fun N hN => ?_
  have fin : ∀ a b c, cnt (R.st r.1) r.2 n = none → N [some (eRc R), some (eRs r), some (.int n), a, b, c] S := by
    intro a b c h
    refine hN _ _ (seq_one ?_)
    rw [h] at q
    simp only [wSs, wSt, wP, wEs, bAn, bOr, wOp, wCd, wIt, pr, prB, wTru, wB, wVar, wC, w1, w2, wL, wTup, wLst, wNew, wNil, wCons, wNot, wAnd, wOr, vNot, vAnd, vOr, wIf, wChain, wRet, wRetN, wIfS, wSeq, wSkip, wAsg, wPar, wTri, wPut, wDrop, wT, wTs, Ts.len, gN, gT, tupL, gNl, gCn, wSl, wSome, wNone, wEmp, wNewd, wNewd1, wCompT, wipeE, wFor, wComp, iR1, iSeq, Bo.o2, Co.o2, Bl.ol, Bt.ol, intD, subD, modD, fdivD, powD, boolD, ltD_int, mul_int, mul_tup, iEn, isND, ↓reduceIte, Bool.false_eq_true, List.length_cons, List.length_nil, Nat.reduceAdd, Nat.zero_add, sz_true, Nat.reduceLeDiff, eq_int, addL, List.cons_append, List.nil_append, ne_eq, reduceCtorEq, not_false_eq_true, not_true_eq_false, tru_bl, ex_cons, ex_two, ex_one, ex_i, ex_ij, ex_bl, ex_env, Bool.bne_false, Bool.bne_true, at3_0, at3_1, at3_2, seqx_tup, seqx_lst, negD, absD, addI, defl, lf1, Lf.d, List.getElem?_cons_zero, List.getElem?_cons_succ, List.set_cons_zero, List.set_cons_succ, Option.some.injEq, exists_eq_left', exists_eq_left, D.int.injEq, D.bl.injEq, D.tup.injEq, D.str.injEq, D.loc.injEq, D.lst.injEq, and_true, true_and, exists_and_left, exists_and_right, decide_eq_true_eq, Bool.not_eq_true', decide_eq_false_iff_not]
    exact q
  clear hN
  refine for_step fun B hB => ?_
  have hl := st_len ok hr
  simp only [wSs, wSt, wP, wEs, bAn, bOr, wOp, wCd, wIt, pr, prB, wTru, wB, wVar, wC, w1, w2, wL, wTup, wLst, wNew, wNil, wCons, wNot, wAnd, wOr, vNot, vAnd, vOr, wIf, wChain, wRet, wRetN, wIfS, wSeq, wSkip, wAsg, wPar, wTri, wPut, wDrop, wT, wTs, Ts.len, gN, gT, tupL, gNl, gCn, wSl, wSome, wNone, wEmp, wNewd, wNewd1, wCompT, wipeE, wFor, wComp, iR1, iSeq, Bo.o2, Co.o2, Bl.ol, Bt.ol, intD, subD, modD, fdivD, powD, boolD, ltD_int, mul_int, mul_tup, iEn, isND, ↓reduceIte, Bool.false_eq_true, List.length_cons, List.length_nil, Nat.reduceAdd, Nat.zero_add, sz_true, Nat.reduceLeDiff, eq_int, addL, List.cons_append, List.nil_append, ne_eq, reduceCtorEq, not_false_eq_true, not_true_eq_false, tru_bl, ex_cons, ex_two, ex_one, ex_i, ex_ij, ex_bl, ex_env, Bool.bne_false, Bool.bne_true, at3_0, at3_1, at3_2, seqx_tup, seqx_lst, negD, absD, addI, defl, lf1, Lf.d, List.getElem?_cons_zero, List.getElem?_cons_succ, List.set_cons_zero, List.set_cons_succ, Option.some.injEq, exists_eq_left', exists_eq_left, D.int.injEq, D.bl.injEq, D.tup.injEq, D.str.injEq, D.loc.injEq, D.lst.injEq, and_true, true_and, exists_and_left, exists_and_right, decide_eq_true_eq, Bool.not_eq_true', decide_eq_false_iff_not, ix_eRs0, ix_eRc hr, len_eSt]
  refine ⟨by omega, by omega, ?_⟩
  rw [Int.toNat_natCast]
  refine forN_of (fun k ρ S' => S' = S ∧ (∃ a b c, ρ = [some (eRc R), some (eRs r), some (.int n), a, b, c]) ∧ ∀ (j : Nat) (w : Rw), j < k → (R.st r.1)[j]? = some w → w.so r.2 n = false) ?_ ?_ _ _ ⟨rfl, ⟨_, _, _, rfl⟩, fun j w h => absurd h (Nat.not_lt_zero _)⟩
  · rintro ρ S' ⟨rfl, ⟨a, b, c, rfl⟩, hh⟩
    exact fin _ _ _ (cnt_done fun j w hj => hh j w (List.getElem?_eq_some_iff.mp hj).1 hj)
  · rintro k ρ S' M hk ⟨rfl, ⟨a, b, c, rfl⟩, hh⟩ hM
    obtain ⟨w, hw⟩ : ∃ w, (R.st r.1)[k]? = some w := ⟨_, List.getElem?_eq_getElem hk⟩
    subst hB
    have no : w.so r.2 n = false → M [some (eRc R), some (eRs r), some (.int n), some (.int k), some (eP (w.lo, w.hi)), some (eA w.af)] S' := fun hs => hM _ _ rfl ⟨rfl, ⟨_, _, _, rfl⟩, fun j v hj hv => by
      rcases Nat.lt_succ_iff_lt_or_eq.mp hj with h | h
      · exact hh j v h hv
      · subst h
        rw [hw] at hv
        cases hv
        exact hs⟩
    have so : w.so r.2 n = (lies n (w.lo, w.hi) && aftB w.af r.2 n) := rfl
    refine seq_gen fun N2 hN2 => ?_
    simp only [wSs, wSt, wP, wEs, bAn, bOr, wOp, wCd, wIt, pr, prB, wTru, wB, wVar, wC, w1, w2, wL, wTup, wLst, wNew, wNil, wCons, wNot, wAnd, wOr, vNot, vAnd, vOr, wIf, wChain, wRet, wRetN, wIfS, wSeq, wSkip, wAsg, wPar, wTri, wPut, wDrop, wT, wTs, Ts.len, gN, gT, tupL, gNl, gCn, wSl, wSome, wNone, wEmp, wNewd, wNewd1, wCompT, wipeE, wFor, wComp, iR1, iSeq, Bo.o2, Co.o2, Bl.ol, Bt.ol, intD, subD, modD, fdivD, powD, boolD, ltD_int, mul_int, mul_tup, iEn, isND, ↓reduceIte, Bool.false_eq_true, List.length_cons, List.length_nil, Nat.reduceAdd, Nat.zero_add, sz_true, Nat.reduceLeDiff, eq_int, addL, List.cons_append, List.nil_append, ne_eq, reduceCtorEq, not_false_eq_true, not_true_eq_false, tru_bl, ex_cons, ex_two, ex_one, ex_i, ex_ij, ex_bl, ex_env, Bool.bne_false, Bool.bne_true, at3_0, at3_1, at3_2, seqx_tup, seqx_lst, negD, absD, addI, defl, lf1, Lf.d, List.getElem?_cons_zero, List.getElem?_cons_succ, List.set_cons_zero, List.set_cons_succ, Option.some.injEq, exists_eq_left', exists_eq_left, D.int.injEq, D.bl.injEq, D.tup.injEq, D.str.injEq, D.loc.injEq, D.lst.injEq, and_true, true_and, exists_and_left, exists_and_right, decide_eq_true_eq, Bool.not_eq_true', decide_eq_false_iff_not, ix_eRs0, ix_eRc hr, ix_eSt hw, sl_eRw]
    refine hN2 _ _ (seq_one ?_)
    clear hN2
    simp only [wSs, wSt, wP, wEs, bAn, bOr, wOp, wCd, wIt, pr, prB, wTru, wB, wVar, wC, w1, w2, wL, wTup, wLst, wNew, wNil, wCons, wNot, wAnd, wOr, vNot, vAnd, vOr, wIf, wChain, wRet, wRetN, wIfS, wSeq, wSkip, wAsg, wPar, wTri, wPut, wDrop, wT, wTs, Ts.len, gN, gT, tupL, gNl, gCn, wSl, wSome, wNone, wEmp, wNewd, wNewd1, wCompT, wipeE, wFor, wComp, iR1, iSeq, Bo.o2, Co.o2, Bl.ol, Bt.ol, intD, subD, modD, fdivD, powD, boolD, ltD_int, mul_int, mul_tup, iEn, isND, ↓reduceIte, Bool.false_eq_true, List.length_cons, List.length_nil, Nat.reduceAdd, Nat.zero_add, sz_true, Nat.reduceLeDiff, eq_int, addL, List.cons_append, List.nil_append, ne_eq, reduceCtorEq, not_false_eq_true, not_true_eq_false, tru_bl, ex_cons, ex_two, ex_one, ex_i, ex_ij, ex_bl, ex_env, Bool.bne_false, Bool.bne_true, at3_0, at3_1, at3_2, seqx_tup, seqx_lst, negD, absD, addI, defl, lf1, Lf.d, List.getElem?_cons_zero, List.getElem?_cons_succ, List.set_cons_zero, List.set_cons_succ, Option.some.injEq, exists_eq_left', exists_eq_left, D.int.injEq, D.bl.injEq, D.tup.injEq, D.str.injEq, D.loc.injEq, D.lst.injEq, and_true, true_and, exists_and_left, exists_and_right, decide_eq_true_eq, Bool.not_eq_true', decide_eq_false_iff_not, h1]
    refine liesK_iff ?_
    simp only [wSs, wSt, wP, wEs, bAn, bOr, wOp, wCd, wIt, pr, prB, wTru, wB, wVar, wC, w1, w2, wL, wTup, wLst, wNew, wNil, wCons, wNot, wAnd, wOr, vNot, vAnd, vOr, wIf, wChain, wRet, wRetN, wIfS, wSeq, wSkip, wAsg, wPar, wTri, wPut, wDrop, wT, wTs, Ts.len, gN, gT, tupL, gNl, gCn, wSl, wSome, wNone, wEmp, wNewd, wNewd1, wCompT, wipeE, wFor, wComp, iR1, iSeq, Bo.o2, Co.o2, Bl.ol, Bt.ol, intD, subD, modD, fdivD, powD, boolD, ltD_int, mul_int, mul_tup, iEn, isND, ↓reduceIte, Bool.false_eq_true, List.length_cons, List.length_nil, Nat.reduceAdd, Nat.zero_add, sz_true, Nat.reduceLeDiff, eq_int, addL, List.cons_append, List.nil_append, ne_eq, reduceCtorEq, not_false_eq_true, not_true_eq_false, tru_bl, ex_cons, ex_two, ex_one, ex_i, ex_ij, ex_bl, ex_env, Bool.bne_false, Bool.bne_true, at3_0, at3_1, at3_2, seqx_tup, seqx_lst, negD, absD, addI, defl, lf1, Lf.d, List.getElem?_cons_zero, List.getElem?_cons_succ, List.set_cons_zero, List.set_cons_succ, Option.some.injEq, exists_eq_left', exists_eq_left, D.int.injEq, D.bl.injEq, D.tup.injEq, D.str.injEq, D.loc.injEq, D.lst.injEq, and_true, true_and, exists_and_left, exists_and_right, decide_eq_true_eq, Bool.not_eq_true', decide_eq_false_iff_not]
    cases hl : lies n (w.lo, w.hi)
    · simp only [wSs, wSt, wP, wEs, bAn, bOr, wOp, wCd, wIt, pr, prB, wTru, wB, wVar, wC, w1, w2, wL, wTup, wLst, wNew, wNil, wCons, wNot, wAnd, wOr, vNot, vAnd, vOr, wIf, wChain, wRet, wRetN, wIfS, wSeq, wSkip, wAsg, wPar, wTri, wPut, wDrop, wT, wTs, Ts.len, gN, gT, tupL, gNl, gCn, wSl, wSome, wNone, wEmp, wNewd, wNewd1, wCompT, wipeE, wFor, wComp, iR1, iSeq, Bo.o2, Co.o2, Bl.ol, Bt.ol, intD, subD, modD, fdivD, powD, boolD, ltD_int, mul_int, mul_tup, iEn, isND, ↓reduceIte, Bool.false_eq_true, List.length_cons, List.length_nil, Nat.reduceAdd, Nat.zero_add, sz_true, Nat.reduceLeDiff, eq_int, addL, List.cons_append, List.nil_append, ne_eq, reduceCtorEq, not_false_eq_true, not_true_eq_false, tru_bl, ex_cons, ex_two, ex_one, ex_i, ex_ij, ex_bl, ex_env, Bool.bne_false, Bool.bne_true, at3_0, at3_1, at3_2, seqx_tup, seqx_lst, negD, absD, addI, defl, lf1, Lf.d, List.getElem?_cons_zero, List.getElem?_cons_succ, List.set_cons_zero, List.set_cons_succ, Option.some.injEq, exists_eq_left', exists_eq_left, D.int.injEq, D.bl.injEq, D.tup.injEq, D.str.injEq, D.loc.injEq, D.lst.injEq, and_true, true_and, exists_and_left, exists_and_right, decide_eq_true_eq, Bool.not_eq_true', decide_eq_false_iff_not]
      exact no (by rw [so]; simp [hl])
    · have yes : aftB w.af r.2 n = true → Q (.int k) S' := fun ha => by
        rw [cnt_at hw (by rw [so, hl, ha]; rfl) hh] at q
        exact q
      have no2 := fun (ha : aftB w.af r.2 n = false) => no (by rw [so]; simp [ha])
      simp only [wSs, wSt, wP, wEs, bAn, bOr, wOp, wCd, wIt, pr, prB, wTru, wB, wVar, wC, w1, w2, wL, wTup, wLst, wNew, wNil, wCons, wNot, wAnd, wOr, vNot, vAnd, vOr, wIf, wChain, wRet, wRetN, wIfS, wSeq, wSkip, wAsg, wPar, wTri, wPut, wDrop, wT, wTs, Ts.len, gN, gT, tupL, gNl, gCn, wSl, wSome, wNone, wEmp, wNewd, wNewd1, wCompT, wipeE, wFor, wComp, iR1, iSeq, Bo.o2, Co.o2, Bl.ol, Bt.ol, intD, subD, modD, fdivD, powD, boolD, ltD_int, mul_int, mul_tup, iEn, isND, ↓reduceIte, Bool.false_eq_true, List.length_cons, List.length_nil, Nat.reduceAdd, Nat.zero_add, sz_true, Nat.reduceLeDiff, eq_int, addL, List.cons_append, List.nil_append, ne_eq, reduceCtorEq, not_false_eq_true, not_true_eq_false, tru_bl, ex_cons, ex_two, ex_one, ex_i, ex_ij, ex_bl, ex_env, Bool.bne_false, Bool.bne_true, at3_0, at3_1, at3_2, seqx_tup, seqx_lst, negD, absD, addI, defl, lf1, Lf.d, List.getElem?_cons_zero, List.getElem?_cons_succ, List.set_cons_zero, List.set_cons_succ, Option.some.injEq, exists_eq_left', exists_eq_left, D.int.injEq, D.bl.injEq, D.tup.injEq, D.str.injEq, D.loc.injEq, D.lst.injEq, and_true, true_and, exists_and_left, exists_and_right, decide_eq_true_eq, Bool.not_eq_true', decide_eq_false_iff_not]
      obtain ⟨s, g⟩ := r
      cases haf : w.af with
      | none =>
        rw [haf] at yes no2
        simp only [wSs, wSt, wP, wEs, bAn, bOr, wOp, wCd, wIt, pr, prB, wTru, wB, wVar, wC, w1, w2, wL, wTup, wLst, wNew, wNil, wCons, wNot, wAnd, wOr, vNot, vAnd, vOr, wIf, wChain, wRet, wRetN, wIfS, wSeq, wSkip, wAsg, wPar, wTri, wPut, wDrop, wT, wTs, Ts.len, gN, gT, tupL, gNl, gCn, wSl, wSome, wNone, wEmp, wNewd, wNewd1, wCompT, wipeE, wFor, wComp, iR1, iSeq, Bo.o2, Co.o2, Bl.ol, Bt.ol, intD, subD, modD, fdivD, powD, boolD, ltD_int, mul_int, mul_tup, iEn, isND, ↓reduceIte, Bool.false_eq_true, List.length_cons, List.length_nil, Nat.reduceAdd, Nat.zero_add, sz_true, Nat.reduceLeDiff, eq_int, addL, List.cons_append, List.nil_append, ne_eq, reduceCtorEq, not_false_eq_true, not_true_eq_false, tru_bl, ex_cons, ex_two, ex_one, ex_i, ex_ij, ex_bl, ex_env, Bool.bne_false, Bool.bne_true, at3_0, at3_1, at3_2, seqx_tup, seqx_lst, negD, absD, addI, defl, lf1, Lf.d, List.getElem?_cons_zero, List.getElem?_cons_succ, List.set_cons_zero, List.set_cons_succ, Option.some.injEq, exists_eq_left', exists_eq_left, D.int.injEq, D.bl.injEq, D.tup.injEq, D.str.injEq, D.loc.injEq, D.lst.injEq, and_true, true_and, exists_and_left, exists_and_right, decide_eq_true_eq, Bool.not_eq_true', decide_eq_false_iff_not, eA, isNon]
        exact yes rfl
      | some p =>
        rw [haf] at yes no2
        cases g with
        | none =>
          simp only [wSs, wSt, wP, wEs, bAn, bOr, wOp, wCd, wIt, pr, prB, wTru, wB, wVar, wC, w1, w2, wL, wTup, wLst, wNew, wNil, wCons, wNot, wAnd, wOr, vNot, vAnd, vOr, wIf, wChain, wRet, wRetN, wIfS, wSeq, wSkip, wAsg, wPar, wTri, wPut, wDrop, wT, wTs, Ts.len, gN, gT, tupL, gNl, gCn, wSl, wSome, wNone, wEmp, wNewd, wNewd1, wCompT, wipeE, wFor, wComp, iR1, iSeq, Bo.o2, Co.o2, Bl.ol, Bt.ol, intD, subD, modD, fdivD, powD, boolD, ltD_int, mul_int, mul_tup, iEn, isND, ↓reduceIte, Bool.false_eq_true, List.length_cons, List.length_nil, Nat.reduceAdd, Nat.zero_add, sz_true, Nat.reduceLeDiff, eq_int, addL, List.cons_append, List.nil_append, ne_eq, reduceCtorEq, not_false_eq_true, not_true_eq_false, tru_bl, ex_cons, ex_two, ex_one, ex_i, ex_ij, ex_bl, ex_env, Bool.bne_false, Bool.bne_true, at3_0, at3_1, at3_2, seqx_tup, seqx_lst, negD, absD, addI, defl, lf1, Lf.d, List.getElem?_cons_zero, List.getElem?_cons_succ, List.set_cons_zero, List.set_cons_succ, Option.some.injEq, exists_eq_left', exists_eq_left, D.int.injEq, D.bl.injEq, D.tup.injEq, D.str.injEq, D.loc.injEq, D.lst.injEq, and_true, true_and, exists_and_left, exists_and_right, decide_eq_true_eq, Bool.not_eq_true', decide_eq_false_iff_not, isNon_eA, Option.isNone, len_eRs, Option.isSome]
          simpa using no2 rfl
        | some g =>
          simp only [wSs, wSt, wP, wEs, bAn, bOr, wOp, wCd, wIt, pr, prB, wTru, wB, wVar, wC, w1, w2, wL, wTup, wLst, wNew, wNil, wCons, wNot, wAnd, wOr, vNot, vAnd, vOr, wIf, wChain, wRet, wRetN, wIfS, wSeq, wSkip, wAsg, wPar, wTri, wPut, wDrop, wT, wTs, Ts.len, gN, gT, tupL, gNl, gCn, wSl, wSome, wNone, wEmp, wNewd, wNewd1, wCompT, wipeE, wFor, wComp, iR1, iSeq, Bo.o2, Co.o2, Bl.ol, Bt.ol, intD, subD, modD, fdivD, powD, boolD, ltD_int, mul_int, mul_tup, iEn, isND, ↓reduceIte, Bool.false_eq_true, List.length_cons, List.length_nil, Nat.reduceAdd, Nat.zero_add, sz_true, Nat.reduceLeDiff, eq_int, addL, List.cons_append, List.nil_append, ne_eq, reduceCtorEq, not_false_eq_true, not_true_eq_false, tru_bl, ex_cons, ex_two, ex_one, ex_i, ex_ij, ex_bl, ex_env, Bool.bne_false, Bool.bne_true, at3_0, at3_1, at3_2, seqx_tup, seqx_lst, negD, absD, addI, defl, lf1, Lf.d, List.getElem?_cons_zero, List.getElem?_cons_succ, List.set_cons_zero, List.set_cons_succ, Option.some.injEq, exists_eq_left', exists_eq_left, D.int.injEq, D.bl.injEq, D.tup.injEq, D.str.injEq, D.loc.injEq, D.lst.injEq, and_true, true_and, exists_and_left, exists_and_right, decide_eq_true_eq, Bool.not_eq_true', decide_eq_false_iff_not, isNon_eA, Option.isNone, len_eRs, Option.isSome, ix_eRs1]
          rw [if_pos (by decide)]
          refine liesK_iff (p := p) ?_
          simp only [wSs, wSt, wP, wEs, bAn, bOr, wOp, wCd, wIt, pr, prB, wTru, wB, wVar, wC, w1, w2, wL, wTup, wLst, wNew, wNil, wCons, wNot, wAnd, wOr, vNot, vAnd, vOr, wIf, wChain, wRet, wRetN, wIfS, wSeq, wSkip, wAsg, wPar, wTri, wPut, wDrop, wT, wTs, Ts.len, gN, gT, tupL, gNl, gCn, wSl, wSome, wNone, wEmp, wNewd, wNewd1, wCompT, wipeE, wFor, wComp, iR1, iSeq, Bo.o2, Co.o2, Bl.ol, Bt.ol, intD, subD, modD, fdivD, powD, boolD, ltD_int, mul_int, mul_tup, iEn, isND, ↓reduceIte, Bool.false_eq_true, List.length_cons, List.length_nil, Nat.reduceAdd, Nat.zero_add, sz_true, Nat.reduceLeDiff, eq_int, addL, List.cons_append, List.nil_append, ne_eq, reduceCtorEq, not_false_eq_true, not_true_eq_false, tru_bl, ex_cons, ex_two, ex_one, ex_i, ex_ij, ex_bl, ex_env, Bool.bne_false, Bool.bne_true, at3_0, at3_1, at3_2, seqx_tup, seqx_lst, negD, absD, addI, defl, lf1, Lf.d, List.getElem?_cons_zero, List.getElem?_cons_succ, List.set_cons_zero, List.set_cons_succ, Option.some.injEq, exists_eq_left', exists_eq_left, D.int.injEq, D.bl.injEq, D.tup.injEq, D.str.injEq, D.loc.injEq, D.lst.injEq, and_true, true_and, exists_and_left, exists_and_right, decide_eq_true_eq, Bool.not_eq_true', decide_eq_false_iff_not]
          split
          · rename_i ha
            exact yes ha
          · rename_i ha
            exact no2 (by simpa [aftB] using ha)
theorem wp_rest_of (Γ : Gm) : ∀ ds S Q, restK ds S Q → wSs Γ b_p_rest_of (inE n_p_rest_of ds) S { nx := fun _ S' => Q .non S', rt := Q } := by
  rintro _ S Q ⟨⟨s, l, k⟩, rfl, q⟩
  show wSs Γ b_p_rest_of [some (eSd (s, l, k)), none, none, none] S _
  cases k <;> simp only [wSs, wSt, wP, wEs, bAn, bOr, wOp, wCd, wIt, pr, prB, wTru, wB, wVar, wC, w1, w2, wL, wTup, wLst, wNew, wNil, wCons, wNot, wAnd, wOr, vNot, vAnd, vOr, wIf, wChain, wRet, wRetN, wIfS, wSeq, wSkip, wAsg, wPar, wTri, wPut, wDrop, wT, wTs, Ts.len, gN, gT, tupL, gNl, gCn, wSl, wSome, wNone, wEmp, wNewd, wNewd1, wCompT, wipeE, wFor, wComp, iR1, iSeq, Bo.o2, Co.o2, Bl.ol, Bt.ol, intD, subD, modD, fdivD, powD, boolD, ltD_int, mul_int, mul_tup, iEn, isND, ↓reduceIte, Bool.false_eq_true, List.length_cons, List.length_nil, Nat.reduceAdd, Nat.zero_add, sz_true, Nat.reduceLeDiff, eq_int, addL, List.cons_append, List.nil_append, ne_eq, reduceCtorEq, not_false_eq_true, not_true_eq_false, tru_bl, ex_cons, ex_two, ex_one, ex_i, ex_ij, ex_bl, ex_env, Bool.bne_false, Bool.bne_true, at3_0, at3_1, at3_2, seqx_tup, seqx_lst, negD, absD, addI, defl, lf1, Lf.d, List.getElem?_cons_zero, List.getElem?_cons_succ, List.set_cons_zero, List.set_cons_succ, Option.some.injEq, exists_eq_left', exists_eq_left, D.int.injEq, D.bl.injEq, D.tup.injEq, D.str.injEq, D.loc.injEq, D.lst.injEq, and_true, true_and, exists_and_left, exists_and_right, decide_eq_true_eq, Bool.not_eq_true', decide_eq_false_iff_not, b_p_rest_of, eSd, eO, isNon] <;> exact q
theorem wp_rest (Γ : Gm) : ∀ ds S Q, restK ds S Q → wSs Γ b_rest (inE n_rest ds) S { nx := fun _ S' => Q .non S', rt := Q } := by
  rintro _ S Q ⟨⟨s, l, k⟩, rfl, q⟩
  show wSs Γ b_rest [some (eSd (s, l, k))] S _
  cases k <;> simp only [wSs, wSt, wP, wEs, bAn, bOr, wOp, wCd, wIt, pr, prB, wTru, wB, wVar, wC, w1, w2, wL, wTup, wLst, wNew, wNil, wCons, wNot, wAnd, wOr, vNot, vAnd, vOr, wIf, wChain, wRet, wRetN, wIfS, wSeq, wSkip, wAsg, wPar, wTri, wPut, wDrop, wT, wTs, Ts.len, gN, gT, tupL, gNl, gCn, wSl, wSome, wNone, wEmp, wNewd, wNewd1, wCompT, wipeE, wFor, wComp, iR1, iSeq, Bo.o2, Co.o2, Bl.ol, Bt.ol, intD, subD, modD, fdivD, powD, boolD, ltD_int, mul_int, mul_tup, iEn, isND, ↓reduceIte, Bool.false_eq_true, List.length_cons, List.length_nil, Nat.reduceAdd, Nat.zero_add, sz_true, Nat.reduceLeDiff, eq_int, addL, List.cons_append, List.nil_append, ne_eq, reduceCtorEq, not_false_eq_true, not_true_eq_false, tru_bl, ex_cons, ex_two, ex_one, ex_i, ex_ij, ex_bl, ex_env, Bool.bne_false, Bool.bne_true, at3_0, at3_1, at3_2, seqx_tup, seqx_lst, negD, absD, addI, defl, lf1, Lf.d, List.getElem?_cons_zero, List.getElem?_cons_succ, List.set_cons_zero, List.set_cons_succ, Option.some.injEq, exists_eq_left', exists_eq_left, D.int.injEq, D.bl.injEq, D.tup.injEq, D.str.injEq, D.loc.injEq, D.lst.injEq, and_true, true_and, exists_and_left, exists_and_right, decide_eq_true_eq, Bool.not_eq_true', decide_eq_false_iff_not, b_rest, eSd, eO, isNon, ix_tup] <;> exact q
theorem wp_stand_at (Γ : Gm) : ∀ ds S Q, standK ds S Q → wSs Γ b_p__stand_at (inE n_p__stand_at ds) S { nx := fun _ S' => Q .non S', rt := Q } := by
  rintro _ S Q ⟨⟨s, k⟩, l, rfl, q⟩
  show wSs Γ b_p__stand_at [some (eRs (s, k)), some (.int l)] S _
  cases k
  · simp only [wSs, wSt, wP, wEs, bAn, bOr, wOp, wCd, wIt, pr, prB, wTru, wB, wVar, wC, w1, w2, wL, wTup, wLst, wNew, wNil, wCons, wNot, wAnd, wOr, vNot, vAnd, vOr, wIf, wChain, wRet, wRetN, wIfS, wSeq, wSkip, wAsg, wPar, wTri, wPut, wDrop, wT, wTs, Ts.len, gN, gT, tupL, gNl, gCn, wSl, wSome, wNone, wEmp, wNewd, wNewd1, wCompT, wipeE, wFor, wComp, iR1, iSeq, Bo.o2, Co.o2, Bl.ol, Bt.ol, intD, subD, modD, fdivD, powD, boolD, ltD_int, mul_int, mul_tup, iEn, isND, ↓reduceIte, Bool.false_eq_true, List.length_cons, List.length_nil, Nat.reduceAdd, Nat.zero_add, sz_true, Nat.reduceLeDiff, eq_int, addL, List.cons_append, List.nil_append, ne_eq, reduceCtorEq, not_false_eq_true, not_true_eq_false, tru_bl, ex_cons, ex_two, ex_one, ex_i, ex_ij, ex_bl, ex_env, Bool.bne_false, Bool.bne_true, at3_0, at3_1, at3_2, seqx_tup, seqx_lst, negD, absD, addI, defl, lf1, Lf.d, List.getElem?_cons_zero, List.getElem?_cons_succ, List.set_cons_zero, List.set_cons_succ, Option.some.injEq, exists_eq_left', exists_eq_left, D.int.injEq, D.bl.injEq, D.tup.injEq, D.str.injEq, D.loc.injEq, D.lst.injEq, and_true, true_and, exists_and_left, exists_and_right, decide_eq_true_eq, Bool.not_eq_true', decide_eq_false_iff_not, b_p__stand_at, ix_eRs0, len_eRs]
    exact q
  · simp only [wSs, wSt, wP, wEs, bAn, bOr, wOp, wCd, wIt, pr, prB, wTru, wB, wVar, wC, w1, w2, wL, wTup, wLst, wNew, wNil, wCons, wNot, wAnd, wOr, vNot, vAnd, vOr, wIf, wChain, wRet, wRetN, wIfS, wSeq, wSkip, wAsg, wPar, wTri, wPut, wDrop, wT, wTs, Ts.len, gN, gT, tupL, gNl, gCn, wSl, wSome, wNone, wEmp, wNewd, wNewd1, wCompT, wipeE, wFor, wComp, iR1, iSeq, Bo.o2, Co.o2, Bl.ol, Bt.ol, intD, subD, modD, fdivD, powD, boolD, ltD_int, mul_int, mul_tup, iEn, isND, ↓reduceIte, Bool.false_eq_true, List.length_cons, List.length_nil, Nat.reduceAdd, Nat.zero_add, sz_true, Nat.reduceLeDiff, eq_int, addL, List.cons_append, List.nil_append, ne_eq, reduceCtorEq, not_false_eq_true, not_true_eq_false, tru_bl, ex_cons, ex_two, ex_one, ex_i, ex_ij, ex_bl, ex_env, Bool.bne_false, Bool.bne_true, at3_0, at3_1, at3_2, seqx_tup, seqx_lst, negD, absD, addI, defl, lf1, Lf.d, List.getElem?_cons_zero, List.getElem?_cons_succ, List.set_cons_zero, List.set_cons_succ, Option.some.injEq, exists_eq_left', exists_eq_left, D.int.injEq, D.bl.injEq, D.tup.injEq, D.str.injEq, D.loc.injEq, D.lst.injEq, and_true, true_and, exists_and_left, exists_and_right, decide_eq_true_eq, Bool.not_eq_true', decide_eq_false_iff_not, b_p__stand_at, ix_eRs0, ix_eRs1, len_eRs]
    exact q
theorem Dd.sh (d : Dd) : SeqAt.shaped (.str d.s) = true := by cases d <;> decide +kernel
theorem Dd.eqs (d e : Dd) : (d.s == e.s) = decide (d = e) := by cases d <;> cases e <;> decide +kernel
theorem eq_dd {d e : Dd} {neg : Bool} {S : Store} {Q : QE} : eqD neg (.str d.s) (.str e.s) S Q ↔ Q (.bl (decide (d = e) != neg)) S := by
  rw [← Dd.eqs]
  constructor
  · rintro (⟨_, h, _⟩ | ⟨a, b, ha, hb, _, _, q⟩)
    · cases h
    · cases ha
      cases hb
      exact q
  · exact fun q => .inr ⟨_, _, rfl, rfl, d.sh, e.sh, q⟩
theorem eq_take {d : Dd} {S : Store} {Q : QE} : eqD false (.str d.s) (.str "take") S Q ↔ Q (.bl (decide (d = .take))) S := by
  have h := eq_dd (d := d) (e := .take) (neg := false) (S := S) (Q := Q)
  rw [Bool.bne_false] at h
  exact h
theorem eq_keep {d : Dd} {S : Store} {Q : QE} : eqD false (.str d.s) (.str "keep") S Q ↔ Q (.bl (decide (d = .keep))) S := by
  have h := eq_dd (d := d) (e := .keep) (neg := false) (S := S) (Q := Q)
  rw [Bool.bne_false] at h
  exact h
theorem eq_leave {d : Dd} {S : Store} {Q : QE} : eqD false (.str d.s) (.str "leave") S Q ↔ Q (.bl (decide (d = .leave))) S := by
  have h := eq_dd (d := d) (e := .leave) (neg := false) (S := S) (Q := Q)
  rw [Bool.bne_false] at h
  exact h
theorem wp_deed_done (Γ : Gm) : ∀ ds S Q, doneK ds S Q → wSs Γ b_p__deed_done (inE n_p__deed_done ds) S { nx := fun _ S' => Q .non S', rt := Q } := by
  rintro _ S Q ⟨⟨lo, hi, af, d, nx⟩, ⟨s, g⟩, n, rfl, q⟩
  have z := sz
  show wSs Γ b_p__deed_done [some (eRw ⟨lo, hi, af, d, nx⟩), some (eRs (s, g)), some (.int n), none, none] S _
  refine seq_gen fun N hN => ?_
  simp only [wSs, wSt, wP, wEs, bAn, bOr, wOp, wCd, wIt, pr, prB, wTru, wB, wVar, wC, w1, w2, wL, wTup, wLst, wNew, wNil, wCons, wNot, wAnd, wOr, vNot, vAnd, vOr, wIf, wChain, wRet, wRetN, wIfS, wSeq, wSkip, wAsg, wPar, wTri, wPut, wDrop, wT, wTs, Ts.len, gN, gT, tupL, gNl, gCn, wSl, wSome, wNone, wEmp, wNewd, wNewd1, wCompT, wipeE, wFor, wComp, iR1, iSeq, Bo.o2, Co.o2, Bl.ol, Bt.ol, intD, subD, modD, fdivD, powD, boolD, ltD_int, mul_int, mul_tup, iEn, isND, ↓reduceIte, Bool.false_eq_true, List.length_cons, List.length_nil, Nat.reduceAdd, Nat.zero_add, sz_true, Nat.reduceLeDiff, eq_int, addL, List.cons_append, List.nil_append, ne_eq, reduceCtorEq, not_false_eq_true, not_true_eq_false, tru_bl, ex_cons, ex_two, ex_one, ex_i, ex_ij, ex_bl, ex_env, Bool.bne_false, Bool.bne_true, at3_0, at3_1, at3_2, seqx_tup, seqx_lst, negD, absD, addI, defl, lf1, Lf.d, List.getElem?_cons_zero, List.getElem?_cons_succ, List.set_cons_zero, List.set_cons_succ, Option.some.injEq, exists_eq_left', exists_eq_left, D.int.injEq, D.bl.injEq, D.tup.injEq, D.str.injEq, D.loc.injEq, D.lst.injEq, and_true, true_and, exists_and_left, exists_and_right, decide_eq_true_eq, Bool.not_eq_true', decide_eq_false_iff_not, ix_eRw2]
  refine hN _ _ (seq_gen fun N hN => ?_)
  simp only [wSs, wSt, wP, wEs, bAn, bOr, wOp, wCd, wIt, pr, prB, wTru, wB, wVar, wC, w1, w2, wL, wTup, wLst, wNew, wNil, wCons, wNot, wAnd, wOr, vNot, vAnd, vOr, wIf, wChain, wRet, wRetN, wIfS, wSeq, wSkip, wAsg, wPar, wTri, wPut, wDrop, wT, wTs, Ts.len, gN, gT, tupL, gNl, gCn, wSl, wSome, wNone, wEmp, wNewd, wNewd1, wCompT, wipeE, wFor, wComp, iR1, iSeq, Bo.o2, Co.o2, Bl.ol, Bt.ol, intD, subD, modD, fdivD, powD, boolD, ltD_int, mul_int, mul_tup, iEn, isND, ↓reduceIte, Bool.false_eq_true, List.length_cons, List.length_nil, Nat.reduceAdd, Nat.zero_add, sz_true, Nat.reduceLeDiff, eq_int, addL, List.cons_append, List.nil_append, ne_eq, reduceCtorEq, not_false_eq_true, not_true_eq_false, tru_bl, ex_cons, ex_two, ex_one, ex_i, ex_ij, ex_bl, ex_env, Bool.bne_false, Bool.bne_true, at3_0, at3_1, at3_2, seqx_tup, seqx_lst, negD, absD, addI, defl, lf1, Lf.d, List.getElem?_cons_zero, List.getElem?_cons_succ, List.set_cons_zero, List.set_cons_succ, Option.some.injEq, exists_eq_left', exists_eq_left, D.int.injEq, D.bl.injEq, D.tup.injEq, D.str.injEq, D.loc.injEq, D.lst.injEq, and_true, true_and, exists_and_left, exists_and_right, decide_eq_true_eq, Bool.not_eq_true', decide_eq_false_iff_not, ix_eRw3]
  refine hN _ _ ?_
  cases d <;> simp only [wSs, wSt, wP, wEs, bAn, bOr, wOp, wCd, wIt, pr, prB, wTru, wB, wVar, wC, w1, w2, wL, wTup, wLst, wNew, wNil, wCons, wNot, wAnd, wOr, vNot, vAnd, vOr, wIf, wChain, wRet, wRetN, wIfS, wSeq, wSkip, wAsg, wPar, wTri, wPut, wDrop, wT, wTs, Ts.len, gN, gT, tupL, gNl, gCn, wSl, wSome, wNone, wEmp, wNewd, wNewd1, wCompT, wipeE, wFor, wComp, iR1, iSeq, Bo.o2, Co.o2, Bl.ol, Bt.ol, intD, subD, modD, fdivD, powD, boolD, ltD_int, mul_int, mul_tup, iEn, isND, ↓reduceIte, Bool.false_eq_true, List.length_cons, List.length_nil, Nat.reduceAdd, Nat.zero_add, sz_true, Nat.reduceLeDiff, eq_int, addL, List.cons_append, List.nil_append, ne_eq, reduceCtorEq, not_false_eq_true, not_true_eq_false, tru_bl, ex_cons, ex_two, ex_one, ex_i, ex_ij, ex_bl, ex_env, Bool.bne_false, Bool.bne_true, at3_0, at3_1, at3_2, seqx_tup, seqx_lst, negD, absD, addI, defl, lf1, Lf.d, List.getElem?_cons_zero, List.getElem?_cons_succ, List.set_cons_zero, List.set_cons_succ, Option.some.injEq, exists_eq_left', exists_eq_left, D.int.injEq, D.bl.injEq, D.tup.injEq, D.str.injEq, D.loc.injEq, D.lst.injEq, and_true, true_and, exists_and_left, exists_and_right, decide_eq_true_eq, Bool.not_eq_true', decide_eq_false_iff_not, eq_take, eq_keep, eq_leave, sl_eRs, decide_true, decide_false]
  · exact q
  · exact q
  · cases g <;> simp only [wSs, wSt, wP, wEs, bAn, bOr, wOp, wCd, wIt, pr, prB, wTru, wB, wVar, wC, w1, w2, wL, wTup, wLst, wNew, wNil, wCons, wNot, wAnd, wOr, vNot, vAnd, vOr, wIf, wChain, wRet, wRetN, wIfS, wSeq, wSkip, wAsg, wPar, wTri, wPut, wDrop, wT, wTs, Ts.len, gN, gT, tupL, gNl, gCn, wSl, wSome, wNone, wEmp, wNewd, wNewd1, wCompT, wipeE, wFor, wComp, iR1, iSeq, Bo.o2, Co.o2, Bl.ol, Bt.ol, intD, subD, modD, fdivD, powD, boolD, ltD_int, mul_int, mul_tup, iEn, isND, ↓reduceIte, Bool.false_eq_true, List.length_cons, List.length_nil, Nat.reduceAdd, Nat.zero_add, sz_true, Nat.reduceLeDiff, eq_int, addL, List.cons_append, List.nil_append, ne_eq, reduceCtorEq, not_false_eq_true, not_true_eq_false, tru_bl, ex_cons, ex_two, ex_one, ex_i, ex_ij, ex_bl, ex_env, Bool.bne_false, Bool.bne_true, at3_0, at3_1, at3_2, seqx_tup, seqx_lst, negD, absD, addI, defl, lf1, Lf.d, List.getElem?_cons_zero, List.getElem?_cons_succ, List.set_cons_zero, List.set_cons_succ, Option.some.injEq, exists_eq_left', exists_eq_left, D.int.injEq, D.bl.injEq, D.tup.injEq, D.str.injEq, D.loc.injEq, D.lst.injEq, and_true, true_and, exists_and_left, exists_and_right, decide_eq_true_eq, Bool.not_eq_true', decide_eq_false_iff_not, addT] <;> first | exact q | exact ⟨by simp only [List.length_cons, List.length_nil]; omega, q⟩
  · exact q
theorem wp_step_from (Γ : Gm) {counting done : Nat} (h1 : Γ.fn counting = countK) (h2 : Γ.fn done = doneK) : ∀ ds S Q, stepK ds S Q → wSs Γ (b_p_step_from counting done) (inE n_p_step_from ds) S { nx := fun _ S' => Q .non S', rt := Q } := by
  rintro _ S Q ⟨R, r, n, rfl, ok, hr, q⟩
  show wSs Γ (b_p_step_from counting done) [some (eRc R), some (eRs r), some (.int n), none] S _
  refine seq_gen fun N hN => ?_
  simp only [wSs, wSt, wP, wEs, bAn, bOr, wOp, wCd, wIt, pr, prB, wTru, wB, wVar, wC, w1, w2, wL, wTup, wLst, wNew, wNil, wCons, wNot, wAnd, wOr, vNot, vAnd, vOr, wIf, wChain, wRet, wRetN, wIfS, wSeq, wSkip, wAsg, wPar, wTri, wPut, wDrop, wT, wTs, Ts.len, gN, gT, tupL, gNl, gCn, wSl, wSome, wNone, wEmp, wNewd, wNewd1, wCompT, wipeE, wFor, wComp, iR1, iSeq, Bo.o2, Co.o2, Bl.ol, Bt.ol, intD, subD, modD, fdivD, powD, boolD, ltD_int, mul_int, mul_tup, iEn, isND, ↓reduceIte, Bool.false_eq_true, List.length_cons, List.length_nil, Nat.reduceAdd, Nat.zero_add, sz_true, Nat.reduceLeDiff, eq_int, addL, List.cons_append, List.nil_append, ne_eq, reduceCtorEq, not_false_eq_true, not_true_eq_false, tru_bl, ex_cons, ex_two, ex_one, ex_i, ex_ij, ex_bl, ex_env, Bool.bne_false, Bool.bne_true, at3_0, at3_1, at3_2, seqx_tup, seqx_lst, negD, absD, addI, defl, lf1, Lf.d, List.getElem?_cons_zero, List.getElem?_cons_succ, List.set_cons_zero, List.set_cons_succ, Option.some.injEq, exists_eq_left', exists_eq_left, D.int.injEq, D.bl.injEq, D.tup.injEq, D.str.injEq, D.loc.injEq, D.lst.injEq, and_true, true_and, exists_and_left, exists_and_right, decide_eq_true_eq, Bool.not_eq_true', decide_eq_false_iff_not, h1]
  refine countK_of ok hr (hN _ _ ?_)
  clear hN
  cases h : cnt (R.st r.1) r.2 n with
  | none =>
    rw [stp_none h] at q
    simp only [wSs, wSt, wP, wEs, bAn, bOr, wOp, wCd, wIt, pr, prB, wTru, wB, wVar, wC, w1, w2, wL, wTup, wLst, wNew, wNil, wCons, wNot, wAnd, wOr, vNot, vAnd, vOr, wIf, wChain, wRet, wRetN, wIfS, wSeq, wSkip, wAsg, wPar, wTri, wPut, wDrop, wT, wTs, Ts.len, gN, gT, tupL, gNl, gCn, wSl, wSome, wNone, wEmp, wNewd, wNewd1, wCompT, wipeE, wFor, wComp, iR1, iSeq, Bo.o2, Co.o2, Bl.ol, Bt.ol, intD, subD, modD, fdivD, powD, boolD, ltD_int, mul_int, mul_tup, iEn, isND, ↓reduceIte, Bool.false_eq_true, List.length_cons, List.length_nil, Nat.reduceAdd, Nat.zero_add, sz_true, Nat.reduceLeDiff, eq_int, addL, List.cons_append, List.nil_append, ne_eq, reduceCtorEq, not_false_eq_true, not_true_eq_false, tru_bl, ex_cons, ex_two, ex_one, ex_i, ex_ij, ex_bl, ex_env, Bool.bne_false, Bool.bne_true, at3_0, at3_1, at3_2, seqx_tup, seqx_lst, negD, absD, addI, defl, lf1, Lf.d, List.getElem?_cons_zero, List.getElem?_cons_succ, List.set_cons_zero, List.set_cons_succ, Option.some.injEq, exists_eq_left', exists_eq_left, D.int.injEq, D.bl.injEq, D.tup.injEq, D.str.injEq, D.loc.injEq, D.lst.injEq, and_true, true_and, exists_and_left, exists_and_right, decide_eq_true_eq, Bool.not_eq_true', decide_eq_false_iff_not, eN, isNon]
    exact q
  | some k =>
    obtain ⟨w, hw, e⟩ := stp_some h
    rw [e] at q
    simp only [wSs, wSt, wP, wEs, bAn, bOr, wOp, wCd, wIt, pr, prB, wTru, wB, wVar, wC, w1, w2, wL, wTup, wLst, wNew, wNil, wCons, wNot, wAnd, wOr, vNot, vAnd, vOr, wIf, wChain, wRet, wRetN, wIfS, wSeq, wSkip, wAsg, wPar, wTri, wPut, wDrop, wT, wTs, Ts.len, gN, gT, tupL, gNl, gCn, wSl, wSome, wNone, wEmp, wNewd, wNewd1, wCompT, wipeE, wFor, wComp, iR1, iSeq, Bo.o2, Co.o2, Bl.ol, Bt.ol, intD, subD, modD, fdivD, powD, boolD, ltD_int, mul_int, mul_tup, iEn, isND, ↓reduceIte, Bool.false_eq_true, List.length_cons, List.length_nil, Nat.reduceAdd, Nat.zero_add, sz_true, Nat.reduceLeDiff, eq_int, addL, List.cons_append, List.nil_append, ne_eq, reduceCtorEq, not_false_eq_true, not_true_eq_false, tru_bl, ex_cons, ex_two, ex_one, ex_i, ex_ij, ex_bl, ex_env, Bool.bne_false, Bool.bne_true, at3_0, at3_1, at3_2, seqx_tup, seqx_lst, negD, absD, addI, defl, lf1, Lf.d, List.getElem?_cons_zero, List.getElem?_cons_succ, List.set_cons_zero, List.set_cons_succ, Option.some.injEq, exists_eq_left', exists_eq_left, D.int.injEq, D.bl.injEq, D.tup.injEq, D.str.injEq, D.loc.injEq, D.lst.injEq, and_true, true_and, exists_and_left, exists_and_right, decide_eq_true_eq, Bool.not_eq_true', decide_eq_false_iff_not, eN, isNon, ix_eRs0, ix_eRc hr, ix_eSt hw, h2]
    exact doneK_of q
theorem wp_step (Γ : Gm) {counting : Nat} (h1 : Γ.fn counting = countK) : ∀ ds S Q, stepK ds S Q → wSs Γ (b_step counting) (inE n_step ds) S { nx := fun _ S' => Q .non S', rt := Q } := by
  rintro _ S Q ⟨R, r, n, rfl, ok, hr, q⟩
  have z := sz
  show wSs Γ (b_step counting) [some (eRc R), some (eRs r), some (.int n), none, none, none] S _
  refine seq_gen fun N hN => ?_
  simp only [wSs, wSt, wP, wEs, bAn, bOr, wOp, wCd, wIt, pr, prB, wTru, wB, wVar, wC, w1, w2, wL, wTup, wLst, wNew, wNil, wCons, wNot, wAnd, wOr, vNot, vAnd, vOr, wIf, wChain, wRet, wRetN, wIfS, wSeq, wSkip, wAsg, wPar, wTri, wPut, wDrop, wT, wTs, Ts.len, gN, gT, tupL, gNl, gCn, wSl, wSome, wNone, wEmp, wNewd, wNewd1, wCompT, wipeE, wFor, wComp, iR1, iSeq, Bo.o2, Co.o2, Bl.ol, Bt.ol, intD, subD, modD, fdivD, powD, boolD, ltD_int, mul_int, mul_tup, iEn, isND, ↓reduceIte, Bool.false_eq_true, List.length_cons, List.length_nil, Nat.reduceAdd, Nat.zero_add, sz_true, Nat.reduceLeDiff, eq_int, addL, List.cons_append, List.nil_append, ne_eq, reduceCtorEq, not_false_eq_true, not_true_eq_false, tru_bl, ex_cons, ex_two, ex_one, ex_i, ex_ij, ex_bl, ex_env, Bool.bne_false, Bool.bne_true, at3_0, at3_1, at3_2, seqx_tup, seqx_lst, negD, absD, addI, defl, lf1, Lf.d, List.getElem?_cons_zero, List.getElem?_cons_succ, List.set_cons_zero, List.set_cons_succ, Option.some.injEq, exists_eq_left', exists_eq_left, D.int.injEq, D.bl.injEq, D.tup.injEq, D.str.injEq, D.loc.injEq, D.lst.injEq, and_true, true_and, exists_and_left, exists_and_right, decide_eq_true_eq, Bool.not_eq_true', decide_eq_false_iff_not, h1]
  refine countK_of ok hr (hN _ _ ?_)
  clear hN
  cases h : cnt (R.st r.1) r.2 n with
  | none =>
    rw [stp_none h] at q
    simp only [wSs, wSt, wP, wEs, bAn, bOr, wOp, wCd, wIt, pr, prB, wTru, wB, wVar, wC, w1, w2, wL, wTup, wLst, wNew, wNil, wCons, wNot, wAnd, wOr, vNot, vAnd, vOr, wIf, wChain, wRet, wRetN, wIfS, wSeq, wSkip, wAsg, wPar, wTri, wPut, wDrop, wT, wTs, Ts.len, gN, gT, tupL, gNl, gCn, wSl, wSome, wNone, wEmp, wNewd, wNewd1, wCompT, wipeE, wFor, wComp, iR1, iSeq, Bo.o2, Co.o2, Bl.ol, Bt.ol, intD, subD, modD, fdivD, powD, boolD, ltD_int, mul_int, mul_tup, iEn, isND, ↓reduceIte, Bool.false_eq_true, List.length_cons, List.length_nil, Nat.reduceAdd, Nat.zero_add, sz_true, Nat.reduceLeDiff, eq_int, addL, List.cons_append, List.nil_append, ne_eq, reduceCtorEq, not_false_eq_true, not_true_eq_false, tru_bl, ex_cons, ex_two, ex_one, ex_i, ex_ij, ex_bl, ex_env, Bool.bne_false, Bool.bne_true, at3_0, at3_1, at3_2, seqx_tup, seqx_lst, negD, absD, addI, defl, lf1, Lf.d, List.getElem?_cons_zero, List.getElem?_cons_succ, List.set_cons_zero, List.set_cons_succ, Option.some.injEq, exists_eq_left', exists_eq_left, D.int.injEq, D.bl.injEq, D.tup.injEq, D.str.injEq, D.loc.injEq, D.lst.injEq, and_true, true_and, exists_and_left, exists_and_right, decide_eq_true_eq, Bool.not_eq_true', decide_eq_false_iff_not, eN, isNon]
    exact q
  | some k =>
    obtain ⟨⟨lo, hi, af, d, nx⟩, hw, e⟩ := stp_some h
    rw [e] at q
    refine seq_gen fun N hN => ?_
    simp only [wSs, wSt, wP, wEs, bAn, bOr, wOp, wCd, wIt, pr, prB, wTru, wB, wVar, wC, w1, w2, wL, wTup, wLst, wNew, wNil, wCons, wNot, wAnd, wOr, vNot, vAnd, vOr, wIf, wChain, wRet, wRetN, wIfS, wSeq, wSkip, wAsg, wPar, wTri, wPut, wDrop, wT, wTs, Ts.len, gN, gT, tupL, gNl, gCn, wSl, wSome, wNone, wEmp, wNewd, wNewd1, wCompT, wipeE, wFor, wComp, iR1, iSeq, Bo.o2, Co.o2, Bl.ol, Bt.ol, intD, subD, modD, fdivD, powD, boolD, ltD_int, mul_int, mul_tup, iEn, isND, ↓reduceIte, Bool.false_eq_true, List.length_cons, List.length_nil, Nat.reduceAdd, Nat.zero_add, sz_true, Nat.reduceLeDiff, eq_int, addL, List.cons_append, List.nil_append, ne_eq, reduceCtorEq, not_false_eq_true, not_true_eq_false, tru_bl, ex_cons, ex_two, ex_one, ex_i, ex_ij, ex_bl, ex_env, Bool.bne_false, Bool.bne_true, at3_0, at3_1, at3_2, seqx_tup, seqx_lst, negD, absD, addI, defl, lf1, Lf.d, List.getElem?_cons_zero, List.getElem?_cons_succ, List.set_cons_zero, List.set_cons_succ, Option.some.injEq, exists_eq_left', exists_eq_left, D.int.injEq, D.bl.injEq, D.tup.injEq, D.str.injEq, D.loc.injEq, D.lst.injEq, and_true, true_and, exists_and_left, exists_and_right, decide_eq_true_eq, Bool.not_eq_true', decide_eq_false_iff_not, eN, isNon]
    refine hN _ _ (seq_gen fun N hN => ?_)
    simp only [wSs, wSt, wP, wEs, bAn, bOr, wOp, wCd, wIt, pr, prB, wTru, wB, wVar, wC, w1, w2, wL, wTup, wLst, wNew, wNil, wCons, wNot, wAnd, wOr, vNot, vAnd, vOr, wIf, wChain, wRet, wRetN, wIfS, wSeq, wSkip, wAsg, wPar, wTri, wPut, wDrop, wT, wTs, Ts.len, gN, gT, tupL, gNl, gCn, wSl, wSome, wNone, wEmp, wNewd, wNewd1, wCompT, wipeE, wFor, wComp, iR1, iSeq, Bo.o2, Co.o2, Bl.ol, Bt.ol, intD, subD, modD, fdivD, powD, boolD, ltD_int, mul_int, mul_tup, iEn, isND, ↓reduceIte, Bool.false_eq_true, List.length_cons, List.length_nil, Nat.reduceAdd, Nat.zero_add, sz_true, Nat.reduceLeDiff, eq_int, addL, List.cons_append, List.nil_append, ne_eq, reduceCtorEq, not_false_eq_true, not_true_eq_false, tru_bl, ex_cons, ex_two, ex_one, ex_i, ex_ij, ex_bl, ex_env, Bool.bne_false, Bool.bne_true, at3_0, at3_1, at3_2, seqx_tup, seqx_lst, negD, absD, addI, defl, lf1, Lf.d, List.getElem?_cons_zero, List.getElem?_cons_succ, List.set_cons_zero, List.set_cons_succ, Option.some.injEq, exists_eq_left', exists_eq_left, D.int.injEq, D.bl.injEq, D.tup.injEq, D.str.injEq, D.loc.injEq, D.lst.injEq, and_true, true_and, exists_and_left, exists_and_right, decide_eq_true_eq, Bool.not_eq_true', decide_eq_false_iff_not, ix_eRs0, ix_eRc hr, ix_eSt hw, sl_eRw']
    refine hN _ _ ?_
    clear hN
    obtain ⟨s, g⟩ := r
    cases d <;> simp only [wSs, wSt, wP, wEs, bAn, bOr, wOp, wCd, wIt, pr, prB, wTru, wB, wVar, wC, w1, w2, wL, wTup, wLst, wNew, wNil, wCons, wNot, wAnd, wOr, vNot, vAnd, vOr, wIf, wChain, wRet, wRetN, wIfS, wSeq, wSkip, wAsg, wPar, wTri, wPut, wDrop, wT, wTs, Ts.len, gN, gT, tupL, gNl, gCn, wSl, wSome, wNone, wEmp, wNewd, wNewd1, wCompT, wipeE, wFor, wComp, iR1, iSeq, Bo.o2, Co.o2, Bl.ol, Bt.ol, intD, subD, modD, fdivD, powD, boolD, ltD_int, mul_int, mul_tup, iEn, isND, ↓reduceIte, Bool.false_eq_true, List.length_cons, List.length_nil, Nat.reduceAdd, Nat.zero_add, sz_true, Nat.reduceLeDiff, eq_int, addL, List.cons_append, List.nil_append, ne_eq, reduceCtorEq, not_false_eq_true, not_true_eq_false, tru_bl, ex_cons, ex_two, ex_one, ex_i, ex_ij, ex_bl, ex_env, Bool.bne_false, Bool.bne_true, at3_0, at3_1, at3_2, seqx_tup, seqx_lst, negD, absD, addI, defl, lf1, Lf.d, List.getElem?_cons_zero, List.getElem?_cons_succ, List.set_cons_zero, List.set_cons_succ, Option.some.injEq, exists_eq_left', exists_eq_left, D.int.injEq, D.bl.injEq, D.tup.injEq, D.str.injEq, D.loc.injEq, D.lst.injEq, and_true, true_and, exists_and_left, exists_and_right, decide_eq_true_eq, Bool.not_eq_true', decide_eq_false_iff_not, eq_take, eq_keep, eq_leave, sl_eRs, decide_true, decide_false, addT]
    · first | exact q | exact ⟨by simp only [List.length_cons, List.length_nil]; omega, q⟩
    · exact q
    · cases g <;> first | exact q | exact ⟨by simp only [List.length_cons, List.length_nil]; omega, q⟩
    · first | exact q | exact ⟨by simp only [List.length_cons, List.length_nil]; omega, q⟩
theorem wp_hear (Γ : Gm) {rest step stand : Nat} (h1 : Γ.fn rest = restK) (h2 : Γ.fn step = stepK) (h3 : Γ.fn stand = standK) : ∀ ds S Q, hearK ds S Q → wSs Γ (b_p_hear rest step stand) (inE n_p_hear ds) S { nx := fun _ S' => Q .non S', rt := Q } := by
  rintro _ S Q ⟨R, ⟨s, l, k⟩, n, rfl, ok, hr, q⟩
  show wSs Γ (b_p_hear rest step stand) [some (eRc R), some (eSd (s, l, k)), some (.int n), none, none, none] S _
  refine seq_gen fun N hN => ?_
  simp only [wSs, wSt, wP, wEs, bAn, bOr, wOp, wCd, wIt, pr, prB, wTru, wB, wVar, wC, w1, w2, wL, wTup, wLst, wNew, wNil, wCons, wNot, wAnd, wOr, vNot, vAnd, vOr, wIf, wChain, wRet, wRetN, wIfS, wSeq, wSkip, wAsg, wPar, wTri, wPut, wDrop, wT, wTs, Ts.len, gN, gT, tupL, gNl, gCn, wSl, wSome, wNone, wEmp, wNewd, wNewd1, wCompT, wipeE, wFor, wComp, iR1, iSeq, Bo.o2, Co.o2, Bl.ol, Bt.ol, intD, subD, modD, fdivD, powD, boolD, ltD_int, mul_int, mul_tup, iEn, isND, ↓reduceIte, Bool.false_eq_true, List.length_cons, List.length_nil, Nat.reduceAdd, Nat.zero_add, sz_true, Nat.reduceLeDiff, eq_int, addL, List.cons_append, List.nil_append, ne_eq, reduceCtorEq, not_false_eq_true, not_true_eq_false, tru_bl, ex_cons, ex_two, ex_one, ex_i, ex_ij, ex_bl, ex_env, Bool.bne_false, Bool.bne_true, at3_0, at3_1, at3_2, seqx_tup, seqx_lst, negD, absD, addI, defl, lf1, Lf.d, List.getElem?_cons_zero, List.getElem?_cons_succ, List.set_cons_zero, List.set_cons_succ, Option.some.injEq, exists_eq_left', exists_eq_left, D.int.injEq, D.bl.injEq, D.tup.injEq, D.str.injEq, D.loc.injEq, D.lst.injEq, and_true, true_and, exists_and_left, exists_and_right, decide_eq_true_eq, Bool.not_eq_true', decide_eq_false_iff_not, eSd, ix_tup]
  refine hN _ _ (seq_gen fun N2 hN2 => ?_)
  clear hN
  simp only [wSs, wSt, wP, wEs, bAn, bOr, wOp, wCd, wIt, pr, prB, wTru, wB, wVar, wC, w1, w2, wL, wTup, wLst, wNew, wNil, wCons, wNot, wAnd, wOr, vNot, vAnd, vOr, wIf, wChain, wRet, wRetN, wIfS, wSeq, wSkip, wAsg, wPar, wTri, wPut, wDrop, wT, wTs, Ts.len, gN, gT, tupL, gNl, gCn, wSl, wSome, wNone, wEmp, wNewd, wNewd1, wCompT, wipeE, wFor, wComp, iR1, iSeq, Bo.o2, Co.o2, Bl.ol, Bt.ol, intD, subD, modD, fdivD, powD, boolD, ltD_int, mul_int, mul_tup, iEn, isND, ↓reduceIte, Bool.false_eq_true, List.length_cons, List.length_nil, Nat.reduceAdd, Nat.zero_add, sz_true, Nat.reduceLeDiff, eq_int, addL, List.cons_append, List.nil_append, ne_eq, reduceCtorEq, not_false_eq_true, not_true_eq_false, tru_bl, ex_cons, ex_two, ex_one, ex_i, ex_ij, ex_bl, ex_env, Bool.bne_false, Bool.bne_true, at3_0, at3_1, at3_2, seqx_tup, seqx_lst, negD, absD, addI, defl, lf1, Lf.d, List.getElem?_cons_zero, List.getElem?_cons_succ, List.set_cons_zero, List.set_cons_succ, Option.some.injEq, exists_eq_left', exists_eq_left, D.int.injEq, D.bl.injEq, D.tup.injEq, D.str.injEq, D.loc.injEq, D.lst.injEq, and_true, true_and, exists_and_left, exists_and_right, decide_eq_true_eq, Bool.not_eq_true', decide_eq_false_iff_not, h1, h2]
  refine restK_of (s := (s, l, k)) ?_
  refine stepK_of (r := restOf (s, l, k)) ok hr ?_
  unfold ePr
  simp only [wSs, wSt, wP, wEs, bAn, bOr, wOp, wCd, wIt, pr, prB, wTru, wB, wVar, wC, w1, w2, wL, wTup, wLst, wNew, wNil, wCons, wNot, wAnd, wOr, vNot, vAnd, vOr, wIf, wChain, wRet, wRetN, wIfS, wSeq, wSkip, wAsg, wPar, wTri, wPut, wDrop, wT, wTs, Ts.len, gN, gT, tupL, gNl, gCn, wSl, wSome, wNone, wEmp, wNewd, wNewd1, wCompT, wipeE, wFor, wComp, iR1, iSeq, Bo.o2, Co.o2, Bl.ol, Bt.ol, intD, subD, modD, fdivD, powD, boolD, ltD_int, mul_int, mul_tup, iEn, isND, ↓reduceIte, Bool.false_eq_true, List.length_cons, List.length_nil, Nat.reduceAdd, Nat.zero_add, sz_true, Nat.reduceLeDiff, eq_int, addL, List.cons_append, List.nil_append, ne_eq, reduceCtorEq, not_false_eq_true, not_true_eq_false, tru_bl, ex_cons, ex_two, ex_one, ex_i, ex_ij, ex_bl, ex_env, Bool.bne_false, Bool.bne_true, at3_0, at3_1, at3_2, seqx_tup, seqx_lst, negD, absD, addI, defl, lf1, Lf.d, List.getElem?_cons_zero, List.getElem?_cons_succ, List.set_cons_zero, List.set_cons_succ, Option.some.injEq, exists_eq_left', exists_eq_left, D.int.injEq, D.bl.injEq, D.tup.injEq, D.str.injEq, D.loc.injEq, D.lst.injEq, and_true, true_and, exists_and_left, exists_and_right, decide_eq_true_eq, Bool.not_eq_true', decide_eq_false_iff_not]
  refine hN2 _ _ ?_
  clear hN2 N2 N
  unfold hearR at q
  generalize hp : stp R (restOf (s, l, k)) (n - l) = p at *
  obtain ⟨b, r⟩ := p
  cases b <;> simp only [wSs, wSt, wP, wEs, bAn, bOr, wOp, wCd, wIt, pr, prB, wTru, wB, wVar, wC, w1, w2, wL, wTup, wLst, wNew, wNil, wCons, wNot, wAnd, wOr, vNot, vAnd, vOr, wIf, wChain, wRet, wRetN, wIfS, wSeq, wSkip, wAsg, wPar, wTri, wPut, wDrop, wT, wTs, Ts.len, gN, gT, tupL, gNl, gCn, wSl, wSome, wNone, wEmp, wNewd, wNewd1, wCompT, wipeE, wFor, wComp, iR1, iSeq, Bo.o2, Co.o2, Bl.ol, Bt.ol, intD, subD, modD, fdivD, powD, boolD, ltD_int, mul_int, mul_tup, iEn, isND, ↓reduceIte, Bool.false_eq_true, List.length_cons, List.length_nil, Nat.reduceAdd, Nat.zero_add, sz_true, Nat.reduceLeDiff, eq_int, addL, List.cons_append, List.nil_append, ne_eq, reduceCtorEq, not_false_eq_true, not_true_eq_false, tru_bl, ex_cons, ex_two, ex_one, ex_i, ex_ij, ex_bl, ex_env, Bool.bne_false, Bool.bne_true, at3_0, at3_1, at3_2, seqx_tup, seqx_lst, negD, absD, addI, defl, lf1, Lf.d, List.getElem?_cons_zero, List.getElem?_cons_succ, List.set_cons_zero, List.set_cons_succ, Option.some.injEq, exists_eq_left', exists_eq_left, D.int.injEq, D.bl.injEq, D.tup.injEq, D.str.injEq, D.loc.injEq, D.lst.injEq, and_true, true_and, exists_and_left, exists_and_right, decide_eq_true_eq, Bool.not_eq_true', decide_eq_false_iff_not, h3] <;> exact standK_of q
theorem wp_heard (Γ : Gm) {step rest : Nat} (h2 : Γ.fn step = stepK) (h1 : Γ.fn rest = restK) : ∀ ds S Q, hearK ds S Q → wSs Γ (b_heard step rest) (inE n_heard ds) S { nx := fun _ S' => Q .non S', rt := Q } := by
  rintro _ S Q ⟨R, ⟨s, l, k⟩, n, rfl, ok, hr, q⟩
  show wSs Γ (b_heard step rest) [some (eRc R), some (eSd (s, l, k)), some (.int n), none, none, none] S _
  refine seq_gen fun N hN => ?_
  have e : ∀ {Q : QE}, ixD (eSd (s, l, k)) (.int 1) S Q ↔ Q (.int l) S := by
    intro Q
    simp [eSd, ix_tup, at3_1]
  simp only [wSs, wSt, wP, wEs, bAn, bOr, wOp, wCd, wIt, pr, prB, wTru, wB, wVar, wC, w1, w2, wL, wTup, wLst, wNew, wNil, wCons, wNot, wAnd, wOr, vNot, vAnd, vOr, wIf, wChain, wRet, wRetN, wIfS, wSeq, wSkip, wAsg, wPar, wTri, wPut, wDrop, wT, wTs, Ts.len, gN, gT, tupL, gNl, gCn, wSl, wSome, wNone, wEmp, wNewd, wNewd1, wCompT, wipeE, wFor, wComp, iR1, iSeq, Bo.o2, Co.o2, Bl.ol, Bt.ol, intD, subD, modD, fdivD, powD, boolD, ltD_int, mul_int, mul_tup, iEn, isND, ↓reduceIte, Bool.false_eq_true, List.length_cons, List.length_nil, Nat.reduceAdd, Nat.zero_add, sz_true, Nat.reduceLeDiff, eq_int, addL, List.cons_append, List.nil_append, ne_eq, reduceCtorEq, not_false_eq_true, not_true_eq_false, tru_bl, ex_cons, ex_two, ex_one, ex_i, ex_ij, ex_bl, ex_env, Bool.bne_false, Bool.bne_true, at3_0, at3_1, at3_2, seqx_tup, seqx_lst, negD, absD, addI, defl, lf1, Lf.d, List.getElem?_cons_zero, List.getElem?_cons_succ, List.set_cons_zero, List.set_cons_succ, Option.some.injEq, exists_eq_left', exists_eq_left, D.int.injEq, D.bl.injEq, D.tup.injEq, D.str.injEq, D.loc.injEq, D.lst.injEq, and_true, true_and, exists_and_left, exists_and_right, decide_eq_true_eq, Bool.not_eq_true', decide_eq_false_iff_not, h1, h2, e]
  refine restK_of (s := (s, l, k)) ?_
  rw [e]
  simp only [wSs, wSt, wP, wEs, bAn, bOr, wOp, wCd, wIt, pr, prB, wTru, wB, wVar, wC, w1, w2, wL, wTup, wLst, wNew, wNil, wCons, wNot, wAnd, wOr, vNot, vAnd, vOr, wIf, wChain, wRet, wRetN, wIfS, wSeq, wSkip, wAsg, wPar, wTri, wPut, wDrop, wT, wTs, Ts.len, gN, gT, tupL, gNl, gCn, wSl, wSome, wNone, wEmp, wNewd, wNewd1, wCompT, wipeE, wFor, wComp, iR1, iSeq, Bo.o2, Co.o2, Bl.ol, Bt.ol, intD, subD, modD, fdivD, powD, boolD, ltD_int, mul_int, mul_tup, iEn, isND, ↓reduceIte, Bool.false_eq_true, List.length_cons, List.length_nil, Nat.reduceAdd, Nat.zero_add, sz_true, Nat.reduceLeDiff, eq_int, addL, List.cons_append, List.nil_append, ne_eq, reduceCtorEq, not_false_eq_true, not_true_eq_false, tru_bl, ex_cons, ex_two, ex_one, ex_i, ex_ij, ex_bl, ex_env, Bool.bne_false, Bool.bne_true, at3_0, at3_1, at3_2, seqx_tup, seqx_lst, negD, absD, addI, defl, lf1, Lf.d, List.getElem?_cons_zero, List.getElem?_cons_succ, List.set_cons_zero, List.set_cons_succ, Option.some.injEq, exists_eq_left', exists_eq_left, D.int.injEq, D.bl.injEq, D.tup.injEq, D.str.injEq, D.loc.injEq, D.lst.injEq, and_true, true_and, exists_and_left, exists_and_right, decide_eq_true_eq, Bool.not_eq_true', decide_eq_false_iff_not]
  refine stepK_of (r := restOf (s, l, k)) ok hr ?_
  unfold ePr
  simp only [wSs, wSt, wP, wEs, bAn, bOr, wOp, wCd, wIt, pr, prB, wTru, wB, wVar, wC, w1, w2, wL, wTup, wLst, wNew, wNil, wCons, wNot, wAnd, wOr, vNot, vAnd, vOr, wIf, wChain, wRet, wRetN, wIfS, wSeq, wSkip, wAsg, wPar, wTri, wPut, wDrop, wT, wTs, Ts.len, gN, gT, tupL, gNl, gCn, wSl, wSome, wNone, wEmp, wNewd, wNewd1, wCompT, wipeE, wFor, wComp, iR1, iSeq, Bo.o2, Co.o2, Bl.ol, Bt.ol, intD, subD, modD, fdivD, powD, boolD, ltD_int, mul_int, mul_tup, iEn, isND, ↓reduceIte, Bool.false_eq_true, List.length_cons, List.length_nil, Nat.reduceAdd, Nat.zero_add, sz_true, Nat.reduceLeDiff, eq_int, addL, List.cons_append, List.nil_append, ne_eq, reduceCtorEq, not_false_eq_true, not_true_eq_false, tru_bl, ex_cons, ex_two, ex_one, ex_i, ex_ij, ex_bl, ex_env, Bool.bne_false, Bool.bne_true, at3_0, at3_1, at3_2, seqx_tup, seqx_lst, negD, absD, addI, defl, lf1, Lf.d, List.getElem?_cons_zero, List.getElem?_cons_succ, List.set_cons_zero, List.set_cons_succ, Option.some.injEq, exists_eq_left', exists_eq_left, D.int.injEq, D.bl.injEq, D.tup.injEq, D.str.injEq, D.loc.injEq, D.lst.injEq, and_true, true_and, exists_and_left, exists_and_right, decide_eq_true_eq, Bool.not_eq_true', decide_eq_false_iff_not]
  refine hN _ _ ?_
  clear hN N
  unfold hearR at q
  generalize hp : stp R (restOf (s, l, k)) (n - l) = p at *
  obtain ⟨b, s2, g⟩ := p
  cases b <;> cases g <;> simp only [wSs, wSt, wP, wEs, bAn, bOr, wOp, wCd, wIt, pr, prB, wTru, wB, wVar, wC, w1, w2, wL, wTup, wLst, wNew, wNil, wCons, wNot, wAnd, wOr, vNot, vAnd, vOr, wIf, wChain, wRet, wRetN, wIfS, wSeq, wSkip, wAsg, wPar, wTri, wPut, wDrop, wT, wTs, Ts.len, gN, gT, tupL, gNl, gCn, wSl, wSome, wNone, wEmp, wNewd, wNewd1, wCompT, wipeE, wFor, wComp, iR1, iSeq, Bo.o2, Co.o2, Bl.ol, Bt.ol, intD, subD, modD, fdivD, powD, boolD, ltD_int, mul_int, mul_tup, iEn, isND, ↓reduceIte, Bool.false_eq_true, List.length_cons, List.length_nil, Nat.reduceAdd, Nat.zero_add, sz_true, Nat.reduceLeDiff, eq_int, addL, List.cons_append, List.nil_append, ne_eq, reduceCtorEq, not_false_eq_true, not_true_eq_false, tru_bl, ex_cons, ex_two, ex_one, ex_i, ex_ij, ex_bl, ex_env, Bool.bne_false, Bool.bne_true, at3_0, at3_1, at3_2, seqx_tup, seqx_lst, negD, absD, addI, defl, lf1, Lf.d, List.getElem?_cons_zero, List.getElem?_cons_succ, List.set_cons_zero, List.set_cons_succ, Option.some.injEq, exists_eq_left', exists_eq_left, D.int.injEq, D.bl.injEq, D.tup.injEq, D.str.injEq, D.loc.injEq, D.lst.injEq, and_true, true_and, exists_and_left, exists_and_right, decide_eq_true_eq, Bool.not_eq_true', decide_eq_false_iff_not, e, ix_eRs0, ix_eRs1, len_eRs, Option.isSome] <;> exact q
end Pv

namespace Pv
open PySem L2 PySem.Spec PyProof.Rows
theorem in_bools {b : Bool} (neg : Bool) {e : D} {bs : List Bool} {S : Store} {Q : QE} (hx : seqX S e = some (bs.map D.bl)) (hl : PyData.canLayAll0 (bs.map PyData.bool) = true) (q : Q (.bl ((bs.any fun y => y == b) != neg)) S) : inD neg (.bl b) e S Q := by
  have hp : ∀ ys : List Bool, pys (ys.map D.bl) = some (ys.map PyData.bool) := by
    intro ys
    induction ys with
    | nil => rfl
    | cons y ys ih => simp [pys, py, ih]
  refine .inl ⟨_, _, _, hx, rfl, hp bs, by cases b <;> decide +kernel, hl, ?_⟩
  rw [List.any_map]
  have e : ((fun y => PyData.eqv y (.bool b)) ∘ PyData.bool) = fun y => y == b := by
    funext y
    cases y <;> cases b <;> rfl
  rw [e]
  exact q
/-- what alike is asked of: a value beside itself -/
def Al0 (d : D) : Prop := d = .non ∨ (∃ i, d = .int i) ∨ (∃ b, d = .bl b) ∨ ∃ s, d = .str s ∧ SeqAt.shaped (.str s) = true
def Al : Nat → D → Prop
  | 0, d => Al0 d
  | n + 1, d => Al0 d ∨ ∃ xs, d = .tup xs ∧ xs.length ≤ 5000 ∧ ∀ x ∈ xs, Al n x
def alC : Nat → OL
  | 0 => noC
  | n + 1 => fun ds S Q => ∃ d, ds = [d, d] ∧ Al n d ∧ Q (.bl true) S
theorem alC_iff {n : Nat} {d : D} {S : Store} {Q : QE} : alC (n + 1) [d, d] S Q ↔ (Al n d ∧ Q (.bl true) S) :=
  ⟨fun ⟨_, e, h⟩ => by cases e; exact h, fun h => ⟨_, rfl, h⟩⟩
theorem isi2_nl {c c' : String} {d : D} {S : Store} {Q : QE} (h : d.nl = true) : isi2D c c' d S Q = Q (.bl (isiB d.ty c || isiB d.ty c')) S := by
  unfold isi2D
  rw [ty_nl h]
  simp
theorem bools_lay : ∀ bs : List Bool, PyData.canLayAll0 (bs.map PyData.bool) = true
  | [] => rfl
  | b :: bs => by
    simp only [List.map_cons, PyData.canLayAll0, bools_lay bs, Bool.and_true]
    rfl
theorem Al.mono : ∀ {n m : Nat} {d : D}, n ≤ m → Al n d → Al m d
  | 0, 0, _, _, h => h
  | 0, _ + 1, _, _, h => .inl h
  | _ + 1, 0, _, hl, _ => absurd hl (Nat.not_succ_le_zero _)
  | _ + 1, _ + 1, _, hl, h => h.imp id fun ⟨xs, e, l, hx⟩ => ⟨xs, e, l, fun x m => Al.mono (Nat.le_of_succ_le_succ hl) (hx x m)⟩
theorem Al0.al {n : Nat} {d : D} (h : Al0 d) : Al n d := Al.mono (Nat.zero_le n) h
theorem al_int {n : Nat} {i : Int} : Al n (.int i) := Al0.al (.inr (.inl ⟨_, rfl⟩))
theorem al_bl {n : Nat} {b : Bool} : Al n (.bl b) := Al0.al (.inr (.inr (.inl ⟨_, rfl⟩)))
theorem al_non {n : Nat} : Al n .non := Al0.al (.inl rfl)
theorem al_eO {n : Nat} {o : Option Int} : Al n (eO o) := by cases o <;> first | exact al_non | exact al_int
theorem al_tup {n : Nat} {xs : List D} (l : xs.length ≤ 5000) (h : ∀ x ∈ xs, Al n x) : Al (n + 1) (.tup xs) := .inr ⟨xs, rfl, l, h⟩
theorem al_nil {n : Nat} : ∀ x ∈ ([] : List D), Al n x := fun x h => by simp at h
theorem al_cons {n : Nat} {x : D} {xs : List D} (h : Al n x) (hs : ∀ x ∈ xs, Al n x) : ∀ y ∈ x :: xs, Al n y := fun y hy => by
  rcases List.mem_cons.mp hy with rfl | hy
  · exact h
  · exact hs y hy
theorem al_eRs {n : Nat} {r : Rs} : Al (n + 1) (eRs r) := by
  obtain ⟨s, g⟩ := r
  cases g <;> exact al_tup (by simp) (by first | exact al_cons al_int al_nil | exact al_cons al_int (al_cons al_int al_nil))
theorem al_ePr {n : Nat} {p : Bool × Rs} : Al (n + 2) (ePr p) := al_tup (by simp) (al_cons al_bl (al_cons al_eRs al_nil))
theorem al_eSd {n : Nat} {s : Sd3} : Al (n + 1) (eSd s) := al_tup (by simp) (al_cons al_int (al_cons al_int (al_cons al_eO al_nil)))
theorem al_eHr {n : Nat} {p : Bool × Sd3} : Al (n + 2) (eHr p) := al_tup (by simp) (al_cons al_bl (al_cons al_eSd al_nil))
theorem wp_alike (Γ : Gm) (r : Nat) {self : Nat} (h12 : Γ.fn self = alC r) : ∀ ds S Q, alC (r + 1) ds S Q → wSs Γ (b_alike self) (inE n_alike ds) S { nx := fun _ S' => Q .non S', rt := Q } := by
  rintro _ S Q ⟨d, rfl, hal, q⟩
  have z := szM
  show wSs Γ (b_alike self) [some d, some d, none] S _
  have leaf : Al0 d → wSs Γ (b_alike self) [some d, some d, none] S { nx := fun _ S' => Q .non S', rt := Q } := by
    rintro (rfl | ⟨i, rfl⟩ | ⟨b, rfl⟩ | ⟨s, rfl, hs⟩)
    · simp only [wSs, wSt, wP, wEs, bAn, bOr, wOp, wCd, wIt, pr, prB, wTru, wB, wVar, wC, w1, w2, wL, wTup, wLst, wNew, wNil, wCons, wNot, wAnd, wOr, vNot, vAnd, vOr, wIf, wChain, wRet, wRetN, wIfS, wSeq, wSkip, wAsg, wPar, wTri, wPut, wDrop, wT, wTs, Ts.len, gN, gT, tupL, gNl, gCn, wSl, wSome, wNone, wEmp, wNewd, wNewd1, wCompT, wipeE, wFor, wComp, iR1, iSeq, Bo.o2, Co.o2, Bl.ol, Bt.ol, intD, subD, modD, fdivD, powD, boolD, ltD_int, mul_int, mul_tup, iEn, isND, ↓reduceIte, Bool.false_eq_true, List.length_cons, List.length_nil, Nat.reduceAdd, Nat.zero_add, sz_true, Nat.reduceLeDiff, eq_int, addL, List.cons_append, List.nil_append, ne_eq, reduceCtorEq, not_false_eq_true, not_true_eq_false, tru_bl, ex_cons, ex_two, ex_one, ex_i, ex_ij, ex_bl, ex_env, Bool.bne_false, Bool.bne_true, at3_0, at3_1, at3_2, seqx_tup, seqx_lst, negD, absD, addI, defl, lf1, Lf.d, List.getElem?_cons_zero, List.getElem?_cons_succ, List.set_cons_zero, List.set_cons_succ, Option.some.injEq, exists_eq_left', exists_eq_left, D.int.injEq, D.bl.injEq, D.tup.injEq, D.str.injEq, D.loc.injEq, D.lst.injEq, and_true, true_and, exists_and_left, exists_and_right, decide_eq_true_eq, Bool.not_eq_true', decide_eq_false_iff_not, b_alike, isi_tuple (d := .non) rfl, isi2_nl (d := .non) rfl, D.isT, D.ty]
      simpa [isiB, isNon] using q
    · simp only [wSs, wSt, wP, wEs, bAn, bOr, wOp, wCd, wIt, pr, prB, wTru, wB, wVar, wC, w1, w2, wL, wTup, wLst, wNew, wNil, wCons, wNot, wAnd, wOr, vNot, vAnd, vOr, wIf, wChain, wRet, wRetN, wIfS, wSeq, wSkip, wAsg, wPar, wTri, wPut, wDrop, wT, wTs, Ts.len, gN, gT, tupL, gNl, gCn, wSl, wSome, wNone, wEmp, wNewd, wNewd1, wCompT, wipeE, wFor, wComp, iR1, iSeq, Bo.o2, Co.o2, Bl.ol, Bt.ol, intD, subD, modD, fdivD, powD, boolD, ltD_int, mul_int, mul_tup, iEn, isND, ↓reduceIte, Bool.false_eq_true, List.length_cons, List.length_nil, Nat.reduceAdd, Nat.zero_add, sz_true, Nat.reduceLeDiff, eq_int, addL, List.cons_append, List.nil_append, ne_eq, reduceCtorEq, not_false_eq_true, not_true_eq_false, tru_bl, ex_cons, ex_two, ex_one, ex_i, ex_ij, ex_bl, ex_env, Bool.bne_false, Bool.bne_true, at3_0, at3_1, at3_2, seqx_tup, seqx_lst, negD, absD, addI, defl, lf1, Lf.d, List.getElem?_cons_zero, List.getElem?_cons_succ, List.set_cons_zero, List.set_cons_succ, Option.some.injEq, exists_eq_left', exists_eq_left, D.int.injEq, D.bl.injEq, D.tup.injEq, D.str.injEq, D.loc.injEq, D.lst.injEq, and_true, true_and, exists_and_left, exists_and_right, decide_eq_true_eq, Bool.not_eq_true', decide_eq_false_iff_not, b_alike, isi_tuple (d := .int i) rfl, isi2_nl (d := .int i) rfl, D.isT, D.ty]
      simpa [isiB, isNon] using q
    · have e : ∀ {Q : QE}, Q (.bl true) S → eqD false (.bl b) (.bl b) S Q := fun q => .inr ⟨_, _, rfl, rfl, by cases b <;> decide +kernel, by cases b <;> decide +kernel, by
        cases b <;> exact q⟩
      refine seq_gen fun N hN => ?_
      simp only [wSs, wSt, wP, wEs, bAn, bOr, wOp, wCd, wIt, pr, prB, wTru, wB, wVar, wC, w1, w2, wL, wTup, wLst, wNew, wNil, wCons, wNot, wAnd, wOr, vNot, vAnd, vOr, wIf, wChain, wRet, wRetN, wIfS, wSeq, wSkip, wAsg, wPar, wTri, wPut, wDrop, wT, wTs, Ts.len, gN, gT, tupL, gNl, gCn, wSl, wSome, wNone, wEmp, wNewd, wNewd1, wCompT, wipeE, wFor, wComp, iR1, iSeq, Bo.o2, Co.o2, Bl.ol, Bt.ol, intD, subD, modD, fdivD, powD, boolD, ltD_int, mul_int, mul_tup, iEn, isND, ↓reduceIte, Bool.false_eq_true, List.length_cons, List.length_nil, Nat.reduceAdd, Nat.zero_add, sz_true, Nat.reduceLeDiff, eq_int, addL, List.cons_append, List.nil_append, ne_eq, reduceCtorEq, not_false_eq_true, not_true_eq_false, tru_bl, ex_cons, ex_two, ex_one, ex_i, ex_ij, ex_bl, ex_env, Bool.bne_false, Bool.bne_true, at3_0, at3_1, at3_2, seqx_tup, seqx_lst, negD, absD, addI, defl, lf1, Lf.d, List.getElem?_cons_zero, List.getElem?_cons_succ, List.set_cons_zero, List.set_cons_succ, Option.some.injEq, exists_eq_left', exists_eq_left, D.int.injEq, D.bl.injEq, D.tup.injEq, D.str.injEq, D.loc.injEq, D.lst.injEq, and_true, true_and, exists_and_left, exists_and_right, decide_eq_true_eq, Bool.not_eq_true', decide_eq_false_iff_not, isi_tuple (d := .bl b) rfl, D.isT]
      refine hN _ _ (seq_gen fun N hN => ?_)
      have t1 : (isiB "bool" "bool" || isiB "bool" "tuple") = true := by decide
      have t2 : isiB "bool" "bool" = true := by decide
      simp only [wSs, wSt, wP, wEs, bAn, bOr, wOp, wCd, wIt, pr, prB, wTru, wB, wVar, wC, w1, w2, wL, wTup, wLst, wNew, wNil, wCons, wNot, wAnd, wOr, vNot, vAnd, vOr, wIf, wChain, wRet, wRetN, wIfS, wSeq, wSkip, wAsg, wPar, wTri, wPut, wDrop, wT, wTs, Ts.len, gN, gT, tupL, gNl, gCn, wSl, wSome, wNone, wEmp, wNewd, wNewd1, wCompT, wipeE, wFor, wComp, iR1, iSeq, Bo.o2, Co.o2, Bl.ol, Bt.ol, intD, subD, modD, fdivD, powD, boolD, ltD_int, mul_int, mul_tup, iEn, isND, ↓reduceIte, Bool.false_eq_true, List.length_cons, List.length_nil, Nat.reduceAdd, Nat.zero_add, sz_true, Nat.reduceLeDiff, eq_int, addL, List.cons_append, List.nil_append, ne_eq, reduceCtorEq, not_false_eq_true, not_true_eq_false, tru_bl, ex_cons, ex_two, ex_one, ex_i, ex_ij, ex_bl, ex_env, Bool.bne_false, Bool.bne_true, at3_0, at3_1, at3_2, seqx_tup, seqx_lst, negD, absD, addI, defl, lf1, Lf.d, List.getElem?_cons_zero, List.getElem?_cons_succ, List.set_cons_zero, List.set_cons_succ, Option.some.injEq, exists_eq_left', exists_eq_left, D.int.injEq, D.bl.injEq, D.tup.injEq, D.str.injEq, D.loc.injEq, D.lst.injEq, and_true, true_and, exists_and_left, exists_and_right, decide_eq_true_eq, Bool.not_eq_true', decide_eq_false_iff_not, isi2_nl (d := .bl b) rfl, isi_bool (d := .bl b) rfl, D.ty, t1, t2]
      exact e q
    · refine seq_gen fun N hN => ?_
      simp only [wSs, wSt, wP, wEs, bAn, bOr, wOp, wCd, wIt, pr, prB, wTru, wB, wVar, wC, w1, w2, wL, wTup, wLst, wNew, wNil, wCons, wNot, wAnd, wOr, vNot, vAnd, vOr, wIf, wChain, wRet, wRetN, wIfS, wSeq, wSkip, wAsg, wPar, wTri, wPut, wDrop, wT, wTs, Ts.len, gN, gT, tupL, gNl, gCn, wSl, wSome, wNone, wEmp, wNewd, wNewd1, wCompT, wipeE, wFor, wComp, iR1, iSeq, Bo.o2, Co.o2, Bl.ol, Bt.ol, intD, subD, modD, fdivD, powD, boolD, ltD_int, mul_int, mul_tup, iEn, isND, ↓reduceIte, Bool.false_eq_true, List.length_cons, List.length_nil, Nat.reduceAdd, Nat.zero_add, sz_true, Nat.reduceLeDiff, eq_int, addL, List.cons_append, List.nil_append, ne_eq, reduceCtorEq, not_false_eq_true, not_true_eq_false, tru_bl, ex_cons, ex_two, ex_one, ex_i, ex_ij, ex_bl, ex_env, Bool.bne_false, Bool.bne_true, at3_0, at3_1, at3_2, seqx_tup, seqx_lst, negD, absD, addI, defl, lf1, Lf.d, List.getElem?_cons_zero, List.getElem?_cons_succ, List.set_cons_zero, List.set_cons_succ, Option.some.injEq, exists_eq_left', exists_eq_left, D.int.injEq, D.bl.injEq, D.tup.injEq, D.str.injEq, D.loc.injEq, D.lst.injEq, and_true, true_and, exists_and_left, exists_and_right, decide_eq_true_eq, Bool.not_eq_true', decide_eq_false_iff_not, isi_tuple (d := .str s) rfl, D.isT]
      refine hN _ _ (seq_gen fun N hN => ?_)
      have t1 : (isiB "str" "bool" || isiB "str" "tuple") = false := by decide
      have t2 : (isiB "str" "int" || isiB "str" "str") = true := by decide
      simp only [wSs, wSt, wP, wEs, bAn, bOr, wOp, wCd, wIt, pr, prB, wTru, wB, wVar, wC, w1, w2, wL, wTup, wLst, wNew, wNil, wCons, wNot, wAnd, wOr, vNot, vAnd, vOr, wIf, wChain, wRet, wRetN, wIfS, wSeq, wSkip, wAsg, wPar, wTri, wPut, wDrop, wT, wTs, Ts.len, gN, gT, tupL, gNl, gCn, wSl, wSome, wNone, wEmp, wNewd, wNewd1, wCompT, wipeE, wFor, wComp, iR1, iSeq, Bo.o2, Co.o2, Bl.ol, Bt.ol, intD, subD, modD, fdivD, powD, boolD, ltD_int, mul_int, mul_tup, iEn, isND, ↓reduceIte, Bool.false_eq_true, List.length_cons, List.length_nil, Nat.reduceAdd, Nat.zero_add, sz_true, Nat.reduceLeDiff, eq_int, addL, List.cons_append, List.nil_append, ne_eq, reduceCtorEq, not_false_eq_true, not_true_eq_false, tru_bl, ex_cons, ex_two, ex_one, ex_i, ex_ij, ex_bl, ex_env, Bool.bne_false, Bool.bne_true, at3_0, at3_1, at3_2, seqx_tup, seqx_lst, negD, absD, addI, defl, lf1, Lf.d, List.getElem?_cons_zero, List.getElem?_cons_succ, List.set_cons_zero, List.set_cons_succ, Option.some.injEq, exists_eq_left', exists_eq_left, D.int.injEq, D.bl.injEq, D.tup.injEq, D.str.injEq, D.loc.injEq, D.lst.injEq, and_true, true_and, exists_and_left, exists_and_right, decide_eq_true_eq, Bool.not_eq_true', decide_eq_false_iff_not, isi2_nl (d := .str s) rfl, D.ty, t1]
      refine hN _ _ (seq_one ?_)
      simp only [wSs, wSt, wP, wEs, bAn, bOr, wOp, wCd, wIt, pr, prB, wTru, wB, wVar, wC, w1, w2, wL, wTup, wLst, wNew, wNil, wCons, wNot, wAnd, wOr, vNot, vAnd, vOr, wIf, wChain, wRet, wRetN, wIfS, wSeq, wSkip, wAsg, wPar, wTri, wPut, wDrop, wT, wTs, Ts.len, gN, gT, tupL, gNl, gCn, wSl, wSome, wNone, wEmp, wNewd, wNewd1, wCompT, wipeE, wFor, wComp, iR1, iSeq, Bo.o2, Co.o2, Bl.ol, Bt.ol, intD, subD, modD, fdivD, powD, boolD, ltD_int, mul_int, mul_tup, iEn, isND, ↓reduceIte, Bool.false_eq_true, List.length_cons, List.length_nil, Nat.reduceAdd, Nat.zero_add, sz_true, Nat.reduceLeDiff, eq_int, addL, List.cons_append, List.nil_append, ne_eq, reduceCtorEq, not_false_eq_true, not_true_eq_false, tru_bl, ex_cons, ex_two, ex_one, ex_i, ex_ij, ex_bl, ex_env, Bool.bne_false, Bool.bne_true, at3_0, at3_1, at3_2, seqx_tup, seqx_lst, negD, absD, addI, defl, lf1, Lf.d, List.getElem?_cons_zero, List.getElem?_cons_succ, List.set_cons_zero, List.set_cons_succ, Option.some.injEq, exists_eq_left', exists_eq_left, D.int.injEq, D.bl.injEq, D.tup.injEq, D.str.injEq, D.loc.injEq, D.lst.injEq, and_true, true_and, exists_and_left, exists_and_right, decide_eq_true_eq, Bool.not_eq_true', decide_eq_false_iff_not, isi2_nl (d := .str s) rfl, D.ty, t2]
      simp only [isNon, Bool.false_eq_true, ↓reduceIte]
      refine eq_str hs hs ?_
      simpa using q
  cases r with
  | zero => exact leaf hal
  | succ r =>
    rcases hal with h | ⟨xs, rfl, hl, hx⟩
    · exact leaf h
    · have nlA : ∀ n x, Al n x → x.nl = true := by
        intro n
        induction n with
        | zero =>
          rintro x (rfl | ⟨i, rfl⟩ | ⟨b, rfl⟩ | ⟨s, rfl, _⟩) <;> rfl
        | succ n ih =>
          rintro x ((rfl | ⟨i, rfl⟩ | ⟨b, rfl⟩ | ⟨s, rfl, _⟩) | ⟨ys, rfl, _, hy⟩) <;> try rfl
          exact nl_tup.mpr fun y hy' => ih y (hy y hy')
      have hn : (D.tup xs).nl = true := nl_tup.mpr fun y hy => nlA r y (hx y hy)
      refine seq_gen fun N hN => ?_
      simp only [wSs, wSt, wP, wEs, bAn, bOr, wOp, wCd, wIt, pr, prB, wTru, wB, wVar, wC, w1, w2, wL, wTup, wLst, wNew, wNil, wCons, wNot, wAnd, wOr, vNot, vAnd, vOr, wIf, wChain, wRet, wRetN, wIfS, wSeq, wSkip, wAsg, wPar, wTri, wPut, wDrop, wT, wTs, Ts.len, gN, gT, tupL, gNl, gCn, wSl, wSome, wNone, wEmp, wNewd, wNewd1, wCompT, wipeE, wFor, wComp, iR1, iSeq, Bo.o2, Co.o2, Bl.ol, Bt.ol, intD, subD, modD, fdivD, powD, boolD, ltD_int, mul_int, mul_tup, iEn, isND, ↓reduceIte, Bool.false_eq_true, List.length_cons, List.length_nil, Nat.reduceAdd, Nat.zero_add, sz_true, Nat.reduceLeDiff, eq_int, addL, List.cons_append, List.nil_append, ne_eq, reduceCtorEq, not_false_eq_true, not_true_eq_false, tru_bl, ex_cons, ex_two, ex_one, ex_i, ex_ij, ex_bl, ex_env, Bool.bne_false, Bool.bne_true, at3_0, at3_1, at3_2, seqx_tup, seqx_lst, negD, absD, addI, defl, lf1, Lf.d, List.getElem?_cons_zero, List.getElem?_cons_succ, List.set_cons_zero, List.set_cons_succ, Option.some.injEq, exists_eq_left', exists_eq_left, D.int.injEq, D.bl.injEq, D.tup.injEq, D.str.injEq, D.loc.injEq, D.lst.injEq, and_true, true_and, exists_and_left, exists_and_right, decide_eq_true_eq, Bool.not_eq_true', decide_eq_false_iff_not, isi_tuple hn, D.isT, len_tup]
      simp only [beq_self_eq_true, ↓reduceIte]
      have fin : inD true (.bl false) (.lst ((List.replicate xs.length true).map D.bl)) S Q := by
        refine in_bools true (bs := List.replicate xs.length true) rfl (bools_lay _) ?_
        have : (List.replicate xs.length true).any (fun y => y == false) = false := by
          rw [List.any_eq_false]
          intro y hy
          rw [(List.mem_replicate.mp hy).2]
          decide
        rw [this]
        exact q
      refine ⟨by omega, by omega, ?_⟩
      refine compL_of (I := fun l S' acc => S' = S ∧ (∀ x ∈ l, ∃ i : Int, x = .int i ∧ 0 ≤ i ∧ i < xs.length) ∧ ∃ k, acc = (List.replicate k true).map D.bl ∧ k + l.length = xs.length) ?_ ?_ _ _ _ ⟨rfl, ?_, 0, rfl, ?_⟩
      · rintro S' acc ⟨rfl, _, k, rfl, hk⟩
        have : k = xs.length := by simpa using hk
        subst this
        exact fin
      · rintro x l S' acc M ⟨rfl, hi, k, rfl, hk⟩ hM
        obtain ⟨i, rfl, i0, i1⟩ := hi x (by simp)
        obtain ⟨y, hy, hm⟩ := at_ex (xs := xs) i0 i1
        simp only [wSs, wSt, wP, wEs, bAn, bOr, wOp, wCd, wIt, pr, prB, wTru, wB, wVar, wC, w1, w2, wL, wTup, wLst, wNew, wNil, wCons, wNot, wAnd, wOr, vNot, vAnd, vOr, wIf, wChain, wRet, wRetN, wIfS, wSeq, wSkip, wAsg, wPar, wTri, wPut, wDrop, wT, wTs, Ts.len, gN, gT, tupL, gNl, gCn, wSl, wSome, wNone, wEmp, wNewd, wNewd1, wCompT, wipeE, wFor, wComp, iR1, iSeq, Bo.o2, Co.o2, Bl.ol, Bt.ol, intD, subD, modD, fdivD, powD, boolD, ltD_int, mul_int, mul_tup, iEn, isND, ↓reduceIte, Bool.false_eq_true, List.length_cons, List.length_nil, Nat.reduceAdd, Nat.zero_add, sz_true, Nat.reduceLeDiff, eq_int, addL, List.cons_append, List.nil_append, ne_eq, reduceCtorEq, not_false_eq_true, not_true_eq_false, tru_bl, ex_cons, ex_two, ex_one, ex_i, ex_ij, ex_bl, ex_env, Bool.bne_false, Bool.bne_true, at3_0, at3_1, at3_2, seqx_tup, seqx_lst, negD, absD, addI, defl, lf1, Lf.d, List.getElem?_cons_zero, List.getElem?_cons_succ, List.set_cons_zero, List.set_cons_succ, Option.some.injEq, exists_eq_left', exists_eq_left, D.int.injEq, D.bl.injEq, D.tup.injEq, D.str.injEq, D.loc.injEq, D.lst.injEq, and_true, true_and, exists_and_left, exists_and_right, decide_eq_true_eq, Bool.not_eq_true', decide_eq_false_iff_not, ix_tup, h12]
        refine ⟨y, hy, y, hy, ?_⟩
        rw [alC_iff]
        refine ⟨hx y hm, hM _ _ rfl ⟨rfl, fun u hu => hi u (List.mem_cons_of_mem _ hu), k + 1, ?_, ?_⟩⟩
        · rw [List.replicate_succ', List.map_append]
          rfl
        · simp only [List.length_cons] at hk
          omega
      · intro x hx
        obtain ⟨i, e, h0, h1⟩ := rngD_mem hx
        exact ⟨i, e, h0, by omega⟩
      · rw [rngD_len]
        omega
/-- the shape of a test at the end of a turn: alike, or the law is false -/
theorem al_ok {n : Nat} {d e : D} (h : d = e) (ha : Al n d) {S : Store} {Q : QE} (q : Q (.bl true) S) : alC (n + 1) [d, e] S Q := by
  subst h
  exact alC_iff.mpr ⟨ha, q⟩
end Pv

namespace Pv
open PySem L2 PySem.Spec PyProof.Rows
theorem mul_lo {i j : Int} {S : Store} {Q : QE} (h : -(2 ^ 64) < i ∧ i < 2 ^ 64 ∨ -(2 ^ 64) < j ∧ j < 2 ^ 64) : CMul i j = True := by
  simp only [eq_iff_iff, iff_true]
  exact h
theorem Dr.at {p : Nat} {S : Store} {g m n : Int} (hp : p < S.length) (h0 : 0 ≤ g) (h1 : 0 ≤ m) (h2 : m < 2305843009213693951) : Dr p S (S.set p (.lst [.int g, .int m, .int n])) :=
  ⟨⟨g, m, n, by simp [hp], h0, h1, h2⟩, by simp, fun q ne _ => by rw [List.getElem?_set_ne (Ne.symm ne)]⟩
theorem wp_dip (Γ : Gm) : ∀ ds S Q, dipC ds S Q → wSs Γ b_dip (inE n_dip ds) S { nx := fun _ S' => Q .non S', rt := Q } := by
  rintro _ S Q ⟨p, n, rfl, hn, hb, hs, q⟩
  have hp := hs.lt
  obtain ⟨g, m, k, e, hg, hm, hm2⟩ := hs
  show wSs Γ b_dip [some (.loc p), some (.int n), none, none] S _
  simp only [wSs, wSt, wP, wEs, bAn, bOr, wOp, wCd, wIt, pr, prB, wTru, wB, wVar, wC, w1, w2, wL, wTup, wLst, wNew, wNil, wCons, wNot, wAnd, wOr, vNot, vAnd, vOr, wIf, wChain, wRet, wRetN, wIfS, wSeq, wSkip, wAsg, wPar, wTri, wPut, wDrop, wT, wTs, Ts.len, gN, gT, tupL, gNl, gCn, wSl, wSome, wNone, wEmp, wNewd, wNewd1, wCompT, wipeE, wFor, wComp, iR1, iSeq, Bo.o2, Co.o2, Bl.ol, Bt.ol, intD, subD, modD, fdivD, powD, boolD, ltD_int, mul_int, mul_tup, iEn, isND, ↓reduceIte, Bool.false_eq_true, List.length_cons, List.length_nil, Nat.reduceAdd, Nat.zero_add, sz_true, Nat.reduceLeDiff, eq_int, addL, List.cons_append, List.nil_append, ne_eq, reduceCtorEq, not_false_eq_true, not_true_eq_false, tru_bl, ex_cons, ex_two, ex_one, ex_i, ex_ij, ex_bl, ex_env, Bool.bne_false, Bool.bne_true, at3_0, at3_1, at3_2, seqx_tup, seqx_lst, negD, absD, addI, defl, lf1, Lf.d, List.getElem?_cons_zero, List.getElem?_cons_succ, List.set_cons_zero, List.set_cons_succ, Option.some.injEq, exists_eq_left', exists_eq_left, D.int.injEq, D.bl.injEq, D.tup.injEq, D.str.injEq, D.loc.injEq, D.lst.injEq, and_true, true_and, exists_and_left, exists_and_right, decide_eq_true_eq, Bool.not_eq_true', decide_eq_false_iff_not, b_dip, ix_loc e, set0 e, set2 e, ix_s hp, set1s hp, int_int, CMul, CDiv]
  by_cases h : 0 < g
  · rw [if_pos (by simpa using h)]
    refine ⟨by first | exact hn | omega, ⟨by first | exact hn | omega, by omega⟩, ?_⟩
    have h1 : 0 ≤ g / n := Int.ediv_nonneg hg (by omega)
    exact q _ _ (Int.emod_nonneg _ (by omega)) (Int.emod_lt_of_pos _ hn) (Dr.at hp h1 hm hm2)
  · rw [if_neg (by simpa using h)]
    refine ⟨.inl (by omega), .inr (by omega), by omega, ?_⟩
    generalize hM : (m * 2862933555777941757 + (3202034522624059733 * (k + 1) + 29)) % 2305843009213693951 = M
    have M0 : 0 ≤ M := by omega
    have M1 : M < 2305843009213693951 := by omega
    refine ⟨.inl (by omega), by omega, by omega, hn, ?_⟩
    exact q _ _ (Int.emod_nonneg _ (by omega)) (Int.emod_lt_of_pos _ hn) (Dr.at hp hg M0 M1)
theorem wp_pick (Γ : Gm) {dip : Nat} (h5 : Γ.fn dip = dipC) : ∀ ds S Q, pickC ds S Q → wSs Γ (b_pick dip) (inE n_pick ds) S { nx := fun _ S' => Q .non S', rt := Q } := by
  rintro _ S Q ⟨p, xs, rfl, hn, hb, hs, q⟩
  show wSs Γ (b_pick dip) [some (.loc p), some (.lst xs)] S _
  simp only [wSs, wSt, wP, wEs, bAn, bOr, wOp, wCd, wIt, pr, prB, wTru, wB, wVar, wC, w1, w2, wL, wTup, wLst, wNew, wNil, wCons, wNot, wAnd, wOr, vNot, vAnd, vOr, wIf, wChain, wRet, wRetN, wIfS, wSeq, wSkip, wAsg, wPar, wTri, wPut, wDrop, wT, wTs, Ts.len, gN, gT, tupL, gNl, gCn, wSl, wSome, wNone, wEmp, wNewd, wNewd1, wCompT, wipeE, wFor, wComp, iR1, iSeq, Bo.o2, Co.o2, Bl.ol, Bt.ol, intD, subD, modD, fdivD, powD, boolD, ltD_int, mul_int, mul_tup, iEn, isND, ↓reduceIte, Bool.false_eq_true, List.length_cons, List.length_nil, Nat.reduceAdd, Nat.zero_add, sz_true, Nat.reduceLeDiff, eq_int, addL, List.cons_append, List.nil_append, ne_eq, reduceCtorEq, not_false_eq_true, not_true_eq_false, tru_bl, ex_cons, ex_two, ex_one, ex_i, ex_ij, ex_bl, ex_env, Bool.bne_false, Bool.bne_true, at3_0, at3_1, at3_2, seqx_tup, seqx_lst, negD, absD, addI, defl, lf1, Lf.d, List.getElem?_cons_zero, List.getElem?_cons_succ, List.set_cons_zero, List.set_cons_succ, Option.some.injEq, exists_eq_left', exists_eq_left, D.int.injEq, D.bl.injEq, D.tup.injEq, D.str.injEq, D.loc.injEq, D.lst.injEq, and_true, true_and, exists_and_left, exists_and_right, decide_eq_true_eq, Bool.not_eq_true', decide_eq_false_iff_not, b_pick, h5, len_lst, dipC_iff, ix_lst]
  have hl : 0 < xs.length := List.length_pos_iff.mpr hn
  refine ⟨by omega, by omega, hs, fun k S' h0 h1 d => ?_⟩
  obtain ⟨x, hx, hm⟩ := at_ex (xs := xs) h0 (by omega)
  exact ⟨x, hx, q x S' hm d⟩
theorem wp_last (Γ : Gm) {pick : Nat} (h6 : Γ.fn pick = pickC) : ∀ ds S Q, intsC ds S Q → wSs Γ (b_last pick) (inE n_last ds) S { nx := fun _ S' => Q .non S', rt := Q } := by
  rintro _ S Q ⟨p, rfl, hs, q⟩
  show wSs Γ (b_last pick) [some (.loc p)] S _
  have c : CPow 10 30 := ⟨by omega, by omega, by decide⟩
  simp only [wSs, wSt, wP, wEs, bAn, bOr, wOp, wCd, wIt, pr, prB, wTru, wB, wVar, wC, w1, w2, wL, wTup, wLst, wNew, wNil, wCons, wNot, wAnd, wOr, vNot, vAnd, vOr, wIf, wChain, wRet, wRetN, wIfS, wSeq, wSkip, wAsg, wPar, wTri, wPut, wDrop, wT, wTs, Ts.len, gN, gT, tupL, gNl, gCn, wSl, wSome, wNone, wEmp, wNewd, wNewd1, wCompT, wipeE, wFor, wComp, iR1, iSeq, Bo.o2, Co.o2, Bl.ol, Bt.ol, intD, subD, modD, fdivD, powD, boolD, ltD_int, mul_int, mul_tup, iEn, isND, ↓reduceIte, Bool.false_eq_true, List.length_cons, List.length_nil, Nat.reduceAdd, Nat.zero_add, sz_true, Nat.reduceLeDiff, eq_int, addL, List.cons_append, List.nil_append, ne_eq, reduceCtorEq, not_false_eq_true, not_true_eq_false, tru_bl, ex_cons, ex_two, ex_one, ex_i, ex_ij, ex_bl, ex_env, Bool.bne_false, Bool.bne_true, at3_0, at3_1, at3_2, seqx_tup, seqx_lst, negD, absD, addI, defl, lf1, Lf.d, List.getElem?_cons_zero, List.getElem?_cons_succ, List.set_cons_zero, List.set_cons_succ, Option.some.injEq, exists_eq_left', exists_eq_left, D.int.injEq, D.bl.injEq, D.tup.injEq, D.str.injEq, D.loc.injEq, D.lst.injEq, and_true, true_and, exists_and_left, exists_and_right, decide_eq_true_eq, Bool.not_eq_true', decide_eq_false_iff_not, b_last, h6, pickC_iff, c]
  refine ⟨by omega, hs, fun d S' hd h => ?_⟩
  simp only [List.mem_cons, List.not_mem_nil, or_false] at hd
  rcases hd with rfl | rfl | rfl | rfl | rfl | rfl | rfl <;> exact q _ _ h
theorem wp_spring (Γ : Gm) : ∀ ds S Q, springC ds S Q → wSs Γ b_spring (inE n_spring ds) S { nx := fun _ S' => Q .non S', rt := Q } := by
  rintro _ S Q ⟨ns, rfl, q⟩
  show wSs Γ b_spring [some (.lst (ns.map D.int)), none, none, none, none] S _
  refine seq_gen fun N hN => ?_
  simp only [wSs, wSt, wP, wEs, bAn, bOr, wOp, wCd, wIt, pr, prB, wTru, wB, wVar, wC, w1, w2, wL, wTup, wLst, wNew, wNil, wCons, wNot, wAnd, wOr, vNot, vAnd, vOr, wIf, wChain, wRet, wRetN, wIfS, wSeq, wSkip, wAsg, wPar, wTri, wPut, wDrop, wT, wTs, Ts.len, gN, gT, tupL, gNl, gCn, wSl, wSome, wNone, wEmp, wNewd, wNewd1, wCompT, wipeE, wFor, wComp, iR1, iSeq, Bo.o2, Co.o2, Bl.ol, Bt.ol, intD, subD, modD, fdivD, powD, boolD, ltD_int, mul_int, mul_tup, iEn, isND, ↓reduceIte, Bool.false_eq_true, List.length_cons, List.length_nil, Nat.reduceAdd, Nat.zero_add, sz_true, Nat.reduceLeDiff, eq_int, addL, List.cons_append, List.nil_append, ne_eq, reduceCtorEq, not_false_eq_true, not_true_eq_false, tru_bl, ex_cons, ex_two, ex_one, ex_i, ex_ij, ex_bl, ex_env, Bool.bne_false, Bool.bne_true, at3_0, at3_1, at3_2, seqx_tup, seqx_lst, negD, absD, addI, defl, lf1, Lf.d, List.getElem?_cons_zero, List.getElem?_cons_succ, List.set_cons_zero, List.set_cons_succ, Option.some.injEq, exists_eq_left', exists_eq_left, D.int.injEq, D.bl.injEq, D.tup.injEq, D.str.injEq, D.loc.injEq, D.lst.injEq, and_true, true_and, exists_and_left, exists_and_right, decide_eq_true_eq, Bool.not_eq_true', decide_eq_false_iff_not]
  refine hN _ _ ?_
  clear hN N
  refine seq_gen fun N hN => ?_
  have c18 : CPow 10 18 := ⟨by omega, by omega, by decide⟩
  have fin : ∀ a c d, (∃ g m : Int, c = some (.int g) ∧ d = some (.int m) ∧ 0 ≤ g ∧ 0 ≤ m ∧ m < 2305843009213693951) → ∀ e, N [some (.lst (ns.map D.int)), a, c, d, e] S := by
    rintro a c d ⟨g, m, rfl, rfl, hg, hm, hm2⟩ e
    refine hN _ _ (seq_one ?_)
    simp only [wSs, wSt, wP, wEs, bAn, bOr, wOp, wCd, wIt, pr, prB, wTru, wB, wVar, wC, w1, w2, wL, wTup, wLst, wNew, wNil, wCons, wNot, wAnd, wOr, vNot, vAnd, vOr, wIf, wChain, wRet, wRetN, wIfS, wSeq, wSkip, wAsg, wPar, wTri, wPut, wDrop, wT, wTs, Ts.len, gN, gT, tupL, gNl, gCn, wSl, wSome, wNone, wEmp, wNewd, wNewd1, wCompT, wipeE, wFor, wComp, iR1, iSeq, Bo.o2, Co.o2, Bl.ol, Bt.ol, intD, subD, modD, fdivD, powD, boolD, ltD_int, mul_int, mul_tup, iEn, isND, ↓reduceIte, Bool.false_eq_true, List.length_cons, List.length_nil, Nat.reduceAdd, Nat.zero_add, sz_true, Nat.reduceLeDiff, eq_int, addL, List.cons_append, List.nil_append, ne_eq, reduceCtorEq, not_false_eq_true, not_true_eq_false, tru_bl, ex_cons, ex_two, ex_one, ex_i, ex_ij, ex_bl, ex_env, Bool.bne_false, Bool.bne_true, at3_0, at3_1, at3_2, seqx_tup, seqx_lst, negD, absD, addI, defl, lf1, Lf.d, List.getElem?_cons_zero, List.getElem?_cons_succ, List.set_cons_zero, List.set_cons_succ, Option.some.injEq, exists_eq_left', exists_eq_left, D.int.injEq, D.bl.injEq, D.tup.injEq, D.str.injEq, D.loc.injEq, D.lst.injEq, and_true, true_and, exists_and_left, exists_and_right, decide_eq_true_eq, Bool.not_eq_true', decide_eq_false_iff_not]
    refine q _ ⟨g, m, 0, by simp, hg, hm, hm2⟩
  clear hN
  refine for_step fun B hB => ?_
  simp only [wSs, wSt, wP, wEs, bAn, bOr, wOp, wCd, wIt, pr, prB, wTru, wB, wVar, wC, w1, w2, wL, wTup, wLst, wNew, wNil, wCons, wNot, wAnd, wOr, vNot, vAnd, vOr, wIf, wChain, wRet, wRetN, wIfS, wSeq, wSkip, wAsg, wPar, wTri, wPut, wDrop, wT, wTs, Ts.len, gN, gT, tupL, gNl, gCn, wSl, wSome, wNone, wEmp, wNewd, wNewd1, wCompT, wipeE, wFor, wComp, iR1, iSeq, Bo.o2, Co.o2, Bl.ol, Bt.ol, intD, subD, modD, fdivD, powD, boolD, ltD_int, mul_int, mul_tup, iEn, isND, ↓reduceIte, Bool.false_eq_true, List.length_cons, List.length_nil, Nat.reduceAdd, Nat.zero_add, sz_true, Nat.reduceLeDiff, eq_int, addL, List.cons_append, List.nil_append, ne_eq, reduceCtorEq, not_false_eq_true, not_true_eq_false, tru_bl, ex_cons, ex_two, ex_one, ex_i, ex_ij, ex_bl, ex_env, Bool.bne_false, Bool.bne_true, at3_0, at3_1, at3_2, seqx_tup, seqx_lst, negD, absD, addI, defl, lf1, Lf.d, List.getElem?_cons_zero, List.getElem?_cons_succ, List.set_cons_zero, List.set_cons_succ, Option.some.injEq, exists_eq_left', exists_eq_left, D.int.injEq, D.bl.injEq, D.tup.injEq, D.str.injEq, D.loc.injEq, D.lst.injEq, and_true, true_and, exists_and_left, exists_and_right, decide_eq_true_eq, Bool.not_eq_true', decide_eq_false_iff_not, slD]
  refine ⟨_, rfl, ?_⟩
  refine forL_of (I := fun l ρ S' => S' = S ∧ (∀ x ∈ l, ∃ i, x = D.int i) ∧ ∃ a c d e, ρ = [some (.lst (ns.map D.int)), a, c, d, e] ∧ ∃ g m : Int, c = some (.int g) ∧ d = some (.int m) ∧ 0 ≤ g ∧ 0 ≤ m ∧ m < 2305843009213693951) ?_ ?_ _ _ _ ?_
  · rintro ρ S' ⟨rfl, _, a, c, d, e, rfl, hh⟩
    exact fin a c d hh e
  · rintro x xs ρ S' M ⟨rfl, hx, a, c, d, e, rfl, g, m, rfl, rfl, hg, hm, hm2⟩ hM
    obtain ⟨i, rfl⟩ := hx x (by simp)
    subst hB
    simp only [wSs, wSt, wP, wEs, bAn, bOr, wOp, wCd, wIt, pr, prB, wTru, wB, wVar, wC, w1, w2, wL, wTup, wLst, wNew, wNil, wCons, wNot, wAnd, wOr, vNot, vAnd, vOr, wIf, wChain, wRet, wRetN, wIfS, wSeq, wSkip, wAsg, wPar, wTri, wPut, wDrop, wT, wTs, Ts.len, gN, gT, tupL, gNl, gCn, wSl, wSome, wNone, wEmp, wNewd, wNewd1, wCompT, wipeE, wFor, wComp, iR1, iSeq, Bo.o2, Co.o2, Bl.ol, Bt.ol, intD, subD, modD, fdivD, powD, boolD, ltD_int, mul_int, mul_tup, iEn, isND, ↓reduceIte, Bool.false_eq_true, List.length_cons, List.length_nil, Nat.reduceAdd, Nat.zero_add, sz_true, Nat.reduceLeDiff, eq_int, addL, List.cons_append, List.nil_append, ne_eq, reduceCtorEq, not_false_eq_true, not_true_eq_false, tru_bl, ex_cons, ex_two, ex_one, ex_i, ex_ij, ex_bl, ex_env, Bool.bne_false, Bool.bne_true, at3_0, at3_1, at3_2, seqx_tup, seqx_lst, negD, absD, addI, defl, lf1, Lf.d, List.getElem?_cons_zero, List.getElem?_cons_succ, List.set_cons_zero, List.set_cons_succ, Option.some.injEq, exists_eq_left', exists_eq_left, D.int.injEq, D.bl.injEq, D.tup.injEq, D.str.injEq, D.loc.injEq, D.lst.injEq, and_true, true_and, exists_and_left, exists_and_right, decide_eq_true_eq, Bool.not_eq_true', decide_eq_false_iff_not, int_int, int_bl, c18, CMul]
    have ha : 0 ≤ (if i < 0 then -i else i) := by split <;> omega
    have hb : (0 : Int) ≤ (if decide (i < 0) = true then 1 else 0) := by split <;> omega
    generalize (if i < 0 then -i else i) = A at *
    generalize (if decide (i < 0) = true then (1 : Int) else 0) = B at *
    refine ⟨.inl (by omega), .inr (by omega), by omega, ?_⟩
    split
    · refine ⟨.inr (by omega), ?_⟩
      exact hM _ _ rfl ⟨rfl, fun y hy => hx y (List.mem_cons_of_mem _ hy), _, _, _, _, rfl, _, _, rfl, rfl, by omega, by omega, by omega⟩
    · exact hM _ _ rfl ⟨rfl, fun y hy => hx y (List.mem_cons_of_mem _ hy), _, _, _, _, rfl, _, _, rfl, rfl, by omega, by omega, by omega⟩
  · refine ⟨rfl, fun x hx => ?_, _, _, _, _, rfl, _, _, rfl, rfl, by omega, by omega, by omega⟩
    have hx := List.mem_of_mem_drop (List.mem_of_mem_take hx)
    rw [List.mem_map] at hx
    obtain ⟨i, _, rfl⟩ := hx
    exact ⟨i, rfl⟩
end Pv

namespace Pv
open PySem L2 PySem.Spec PyProof.Rows
theorem wp_range (Γ : Gm) {dip : Nat} (h5 : Γ.fn dip = dipC) : ∀ ds S Q, rangeK ds S Q → wSs Γ (b_range dip) (inE n_range ds) S { nx := fun _ S' => Q .non S', rt := Q } := by
  rintro _ S Q ⟨p, rfl, hs, q⟩
  show wSs Γ (b_range dip) [some (.loc p), none, none] S _
  refine seq_gen fun N hN => ?_
  simp only [wSs, wSt, wP, wEs, bAn, bOr, wOp, wCd, wIt, pr, prB, wTru, wB, wVar, wC, w1, w2, wL, wTup, wLst, wNew, wNil, wCons, wNot, wAnd, wOr, vNot, vAnd, vOr, wIf, wChain, wRet, wRetN, wIfS, wSeq, wSkip, wAsg, wPar, wTri, wPut, wDrop, wT, wTs, Ts.len, gN, gT, tupL, gNl, gCn, wSl, wSome, wNone, wEmp, wNewd, wNewd1, wCompT, wipeE, wFor, wComp, iR1, iSeq, Bo.o2, Co.o2, Bl.ol, Bt.ol, intD, subD, modD, fdivD, powD, boolD, ltD_int, mul_int, mul_tup, iEn, isND, ↓reduceIte, Bool.false_eq_true, List.length_cons, List.length_nil, Nat.reduceAdd, Nat.zero_add, sz_true, Nat.reduceLeDiff, eq_int, addL, List.cons_append, List.nil_append, ne_eq, reduceCtorEq, not_false_eq_true, not_true_eq_false, tru_bl, ex_cons, ex_two, ex_one, ex_i, ex_ij, ex_bl, ex_env, Bool.bne_false, Bool.bne_true, at3_0, at3_1, at3_2, seqx_tup, seqx_lst, negD, absD, addI, defl, lf1, Lf.d, List.getElem?_cons_zero, List.getElem?_cons_succ, List.set_cons_zero, List.set_cons_succ, Option.some.injEq, exists_eq_left', exists_eq_left, D.int.injEq, D.bl.injEq, D.tup.injEq, D.str.injEq, D.loc.injEq, D.lst.injEq, and_true, true_and, exists_and_left, exists_and_right, decide_eq_true_eq, Bool.not_eq_true', decide_eq_false_iff_not, h5, dipC_iff]
  refine ⟨by omega, by omega, hs, fun w S1 w0 w1 d1 => hN _ _ ?_⟩
  clear hN N
  refine seq_gen fun N hN => ?_
  have go : ∀ (low : Int) S2, -6 ≤ low → low ≤ 6 → Dr p S S2 → N [some (.loc p), some (.int w), some (.int low)] S2 := by
    intro low S2 l0 l1 d2
    refine hN _ _ ?_
    clear hN N
    have b := B6.some l0 l1
    simp only [wSs, wSt, wP, wEs, bAn, bOr, wOp, wCd, wIt, pr, prB, wTru, wB, wVar, wC, w1, w2, wL, wTup, wLst, wNew, wNil, wCons, wNot, wAnd, wOr, vNot, vAnd, vOr, wIf, wChain, wRet, wRetN, wIfS, wSeq, wSkip, wAsg, wPar, wTri, wPut, wDrop, wT, wTs, Ts.len, gN, gT, tupL, gNl, gCn, wSl, wSome, wNone, wEmp, wNewd, wNewd1, wCompT, wipeE, wFor, wComp, iR1, iSeq, Bo.o2, Co.o2, Bl.ol, Bt.ol, intD, subD, modD, fdivD, powD, boolD, ltD_int, mul_int, mul_tup, iEn, isND, ↓reduceIte, Bool.false_eq_true, List.length_cons, List.length_nil, Nat.reduceAdd, Nat.zero_add, sz_true, Nat.reduceLeDiff, eq_int, addL, List.cons_append, List.nil_append, ne_eq, reduceCtorEq, not_false_eq_true, not_true_eq_false, tru_bl, ex_cons, ex_two, ex_one, ex_i, ex_ij, ex_bl, ex_env, Bool.bne_false, Bool.bne_true, at3_0, at3_1, at3_2, seqx_tup, seqx_lst, negD, absD, addI, defl, lf1, Lf.d, List.getElem?_cons_zero, List.getElem?_cons_succ, List.set_cons_zero, List.set_cons_succ, Option.some.injEq, exists_eq_left', exists_eq_left, D.int.injEq, D.bl.injEq, D.tup.injEq, D.str.injEq, D.loc.injEq, D.lst.injEq, and_true, true_and, exists_and_left, exists_and_right, decide_eq_true_eq, Bool.not_eq_true', decide_eq_false_iff_not, h5, dipC_iff, ix_lst]
    split
    · obtain ⟨x, hx, hm⟩ := at_ex (xs := [D.tup [.non, .int low], .tup [.int low, .non], .tup [.non, .non]]) w0 (by simp; omega)
      refine ⟨x, hx, ?_⟩
      simp only [List.mem_cons, List.not_mem_nil, or_false] at hm
      rcases hm with rfl | rfl | rfl
      · exact q (none, some low) _ ⟨B6.none, b, fun a b h _ => by cases h⟩ d2
      · exact q (some low, none) _ ⟨b, B6.none, fun a b _ h => by cases h⟩ d2
      · exact q (none, none) _ ⟨B6.none, B6.none, fun a b h _ => by cases h⟩ d2
    · refine ⟨by omega, by omega, d2.spr, fun j S3 j0 j1 d3 => ?_⟩
      exact q (some low, some (low + j)) _ ⟨b, B6.some (by omega) (by omega), fun a b h h' => by cases h; cases h'; omega⟩ (d2.trans d3)
  simp only [wSs, wSt, wP, wEs, bAn, bOr, wOp, wCd, wIt, pr, prB, wTru, wB, wVar, wC, w1, w2, wL, wTup, wLst, wNew, wNil, wCons, wNot, wAnd, wOr, vNot, vAnd, vOr, wIf, wChain, wRet, wRetN, wIfS, wSeq, wSkip, wAsg, wPar, wTri, wPut, wDrop, wT, wTs, Ts.len, gN, gT, tupL, gNl, gCn, wSl, wSome, wNone, wEmp, wNewd, wNewd1, wCompT, wipeE, wFor, wComp, iR1, iSeq, Bo.o2, Co.o2, Bl.ol, Bt.ol, intD, subD, modD, fdivD, powD, boolD, ltD_int, mul_int, mul_tup, iEn, isND, ↓reduceIte, Bool.false_eq_true, List.length_cons, List.length_nil, Nat.reduceAdd, Nat.zero_add, sz_true, Nat.reduceLeDiff, eq_int, addL, List.cons_append, List.nil_append, ne_eq, reduceCtorEq, not_false_eq_true, not_true_eq_false, tru_bl, ex_cons, ex_two, ex_one, ex_i, ex_ij, ex_bl, ex_env, Bool.bne_false, Bool.bne_true, at3_0, at3_1, at3_2, seqx_tup, seqx_lst, negD, absD, addI, defl, lf1, Lf.d, List.getElem?_cons_zero, List.getElem?_cons_succ, List.set_cons_zero, List.set_cons_succ, Option.some.injEq, exists_eq_left', exists_eq_left, D.int.injEq, D.bl.injEq, D.tup.injEq, D.str.injEq, D.loc.injEq, D.lst.injEq, and_true, true_and, exists_and_left, exists_and_right, decide_eq_true_eq, Bool.not_eq_true', decide_eq_false_iff_not, h5, dipC_iff]
  split
  · exact ⟨by omega, by omega, d1.spr, fun k S2 k0 k1 d2 => go _ _ (by omega) (by omega) (d1.trans d2)⟩
  · exact ⟨by omega, by omega, d1.spr, fun k S2 k0 k1 d2 => go _ _ (by omega) (by omega) (d1.trans d2)⟩
theorem py_eO : ∀ o : Option Int, ∃ x, py (eO o) = some x ∧ PyData.canLay0 x = true ∧ PyData.eqv x .none = o.isNone
  | none => ⟨_, rfl, rfl, by decide⟩
  | some i => ⟨_, rfl, rfl, rfl⟩
theorem in_eP {p : Option Int × Option Int} {S : Store} {Q : QE} (q : Q (.bl (p.1.isNone || p.2.isNone)) S) : inD false .non (eP p) S Q := by
  obtain ⟨x, hx, cx, ex⟩ := py_eO p.1
  obtain ⟨y, hy, cy, ey⟩ := py_eO p.2
  refine .inl ⟨[eO p.1, eO p.2], .none, [x, y], rfl, rfl, by simp [pys, hx, hy], by decide, by simp [PyData.canLayAll0, cx, cy], ?_⟩
  simpa [ex, ey] using q
theorem wp_row (Γ : Gm) {dip pick range : Nat} (h5 : Γ.fn dip = dipC) (h6 : Γ.fn pick = pickC) (h7 : Γ.fn range = rangeK) : ∀ ds S Q, rowK ds S Q → wSs Γ (b_row dip pick range) (inE n_row ds) S { nx := fun _ S' => Q .non S', rt := Q } := by
  rintro _ S Q ⟨p, n, rfl, hn, hb, hs, q⟩
  show wSs Γ (b_row dip pick range) [some (.loc p), some (.int n), none, none, none] S _
  refine seq_gen fun N hN => ?_
  simp only [wSs, wSt, wP, wEs, bAn, bOr, wOp, wCd, wIt, pr, prB, wTru, wB, wVar, wC, w1, w2, wL, wTup, wLst, wNew, wNil, wCons, wNot, wAnd, wOr, vNot, vAnd, vOr, wIf, wChain, wRet, wRetN, wIfS, wSeq, wSkip, wAsg, wPar, wTri, wPut, wDrop, wT, wTs, Ts.len, gN, gT, tupL, gNl, gCn, wSl, wSome, wNone, wEmp, wNewd, wNewd1, wCompT, wipeE, wFor, wComp, iR1, iSeq, Bo.o2, Co.o2, Bl.ol, Bt.ol, intD, subD, modD, fdivD, powD, boolD, ltD_int, mul_int, mul_tup, iEn, isND, ↓reduceIte, Bool.false_eq_true, List.length_cons, List.length_nil, Nat.reduceAdd, Nat.zero_add, sz_true, Nat.reduceLeDiff, eq_int, addL, List.cons_append, List.nil_append, ne_eq, reduceCtorEq, not_false_eq_true, not_true_eq_false, tru_bl, ex_cons, ex_two, ex_one, ex_i, ex_ij, ex_bl, ex_env, Bool.bne_false, Bool.bne_true, at3_0, at3_1, at3_2, seqx_tup, seqx_lst, negD, absD, addI, defl, lf1, Lf.d, List.getElem?_cons_zero, List.getElem?_cons_succ, List.set_cons_zero, List.set_cons_succ, Option.some.injEq, exists_eq_left', exists_eq_left, D.int.injEq, D.bl.injEq, D.tup.injEq, D.str.injEq, D.loc.injEq, D.lst.injEq, and_true, true_and, exists_and_left, exists_and_right, decide_eq_true_eq, Bool.not_eq_true', decide_eq_false_iff_not, h7, rangeK_iff]
  refine ⟨hs, fun ah S1 oka d1 => hN _ _ ?_⟩
  clear hN N
  refine seq_gen fun N hN => ?_
  have hN2 : ∀ (f : Option (Option Int × Option Int)) (S2 : Store), (∀ p, f = some p → OkP p) → Dr p S S2 → N [some (.loc p), some (.int n), none, some (eP ah), some (eA f)] S2 := by
    intro f S2 hf d2
    refine hN _ _ ?_
    clear hN N
    refine seq_gen fun N hN => ?_
    simp only [wSs, wSt, wP, wEs, bAn, bOr, wOp, wCd, wIt, pr, prB, wTru, wB, wVar, wC, w1, w2, wL, wTup, wLst, wNew, wNil, wCons, wNot, wAnd, wOr, vNot, vAnd, vOr, wIf, wChain, wRet, wRetN, wIfS, wSeq, wSkip, wAsg, wPar, wTri, wPut, wDrop, wT, wTs, Ts.len, gN, gT, tupL, gNl, gCn, wSl, wSome, wNone, wEmp, wNewd, wNewd1, wCompT, wipeE, wFor, wComp, iR1, iSeq, Bo.o2, Co.o2, Bl.ol, Bt.ol, intD, subD, modD, fdivD, powD, boolD, ltD_int, mul_int, mul_tup, iEn, isND, ↓reduceIte, Bool.false_eq_true, List.length_cons, List.length_nil, Nat.reduceAdd, Nat.zero_add, sz_true, Nat.reduceLeDiff, eq_int, addL, List.cons_append, List.nil_append, ne_eq, reduceCtorEq, not_false_eq_true, not_true_eq_false, tru_bl, ex_cons, ex_two, ex_one, ex_i, ex_ij, ex_bl, ex_env, Bool.bne_false, Bool.bne_true, at3_0, at3_1, at3_2, seqx_tup, seqx_lst, negD, absD, addI, defl, lf1, Lf.d, List.getElem?_cons_zero, List.getElem?_cons_succ, List.set_cons_zero, List.set_cons_succ, Option.some.injEq, exists_eq_left', exists_eq_left, D.int.injEq, D.bl.injEq, D.tup.injEq, D.str.injEq, D.loc.injEq, D.lst.injEq, and_true, true_and, exists_and_left, exists_and_right, decide_eq_true_eq, Bool.not_eq_true', decide_eq_false_iff_not, h6, pickC_iff]
    refine ⟨by omega, d2.spr, fun d S3 hd d3 => hN _ _ ?_⟩
    clear hN N
    have hd2 : ∃ z : Dd, d = .str z.s ∧ SeqAt.shaped (.str z.s) = true ∧ (((z.s == ("keep" : Str)) != false) = decide (z = .keep)) := by
      simp only [List.mem_cons, List.not_mem_nil, or_false] at hd
      rcases hd with rfl | rfl | rfl | rfl | rfl | rfl
      · exact ⟨.take, rfl, by decide +kernel, by decide +kernel⟩
      · exact ⟨.take, rfl, by decide +kernel, by decide +kernel⟩
      · exact ⟨.keep, rfl, by decide +kernel, by decide +kernel⟩
      · exact ⟨.keep, rfl, by decide +kernel, by decide +kernel⟩
      · exact ⟨.leave, rfl, by decide +kernel, by decide +kernel⟩
      · exact ⟨.drop, rfl, by decide +kernel, by decide +kernel⟩
    obtain ⟨z, rfl, hz, hk⟩ := hd2
    refine seq_gen fun N hN => ?_
    have fin : ∀ (g : Dd), (g = .keep → ah.1 ≠ none ∧ ah.2 ≠ none) → N [some (.loc p), some (.int n), some (.str g.s), some (eP ah), some (eA f)] S3 := by
      intro g hg
      refine hN _ _ (seq_one ?_)
      simp only [wSs, wSt, wP, wEs, bAn, bOr, wOp, wCd, wIt, pr, prB, wTru, wB, wVar, wC, w1, w2, wL, wTup, wLst, wNew, wNil, wCons, wNot, wAnd, wOr, vNot, vAnd, vOr, wIf, wChain, wRet, wRetN, wIfS, wSeq, wSkip, wAsg, wPar, wTri, wPut, wDrop, wT, wTs, Ts.len, gN, gT, tupL, gNl, gCn, wSl, wSome, wNone, wEmp, wNewd, wNewd1, wCompT, wipeE, wFor, wComp, iR1, iSeq, Bo.o2, Co.o2, Bl.ol, Bt.ol, intD, subD, modD, fdivD, powD, boolD, ltD_int, mul_int, mul_tup, iEn, isND, ↓reduceIte, Bool.false_eq_true, List.length_cons, List.length_nil, Nat.reduceAdd, Nat.zero_add, sz_true, Nat.reduceLeDiff, eq_int, addL, List.cons_append, List.nil_append, ne_eq, reduceCtorEq, not_false_eq_true, not_true_eq_false, tru_bl, ex_cons, ex_two, ex_one, ex_i, ex_ij, ex_bl, ex_env, Bool.bne_false, Bool.bne_true, at3_0, at3_1, at3_2, seqx_tup, seqx_lst, negD, absD, addI, defl, lf1, Lf.d, List.getElem?_cons_zero, List.getElem?_cons_succ, List.set_cons_zero, List.set_cons_succ, Option.some.injEq, exists_eq_left', exists_eq_left, D.int.injEq, D.bl.injEq, D.tup.injEq, D.str.injEq, D.loc.injEq, D.lst.injEq, and_true, true_and, exists_and_left, exists_and_right, decide_eq_true_eq, Bool.not_eq_true', decide_eq_false_iff_not, h5, dipC_iff]
      refine ⟨hn, by omega, d3.spr, fun k S5 k0 k1 d5 => ?_⟩
      have e : (k.toNat : Int) = k := by omega
      have := q ⟨ah.1, ah.2, f, g, k.toNat⟩ S5 ⟨oka, hf, hg, by show k.toNat < n.toNat; omega⟩ ((d2.trans d3).trans d5)
      unfold eRw at this
      rw [e] at this
      exact this
    simp only [wSs, wSt, wP, wEs, bAn, bOr, wOp, wCd, wIt, pr, prB, wTru, wB, wVar, wC, w1, w2, wL, wTup, wLst, wNew, wNil, wCons, wNot, wAnd, wOr, vNot, vAnd, vOr, wIf, wChain, wRet, wRetN, wIfS, wSeq, wSkip, wAsg, wPar, wTri, wPut, wDrop, wT, wTs, Ts.len, gN, gT, tupL, gNl, gCn, wSl, wSome, wNone, wEmp, wNewd, wNewd1, wCompT, wipeE, wFor, wComp, iR1, iSeq, Bo.o2, Co.o2, Bl.ol, Bt.ol, intD, subD, modD, fdivD, powD, boolD, ltD_int, mul_int, mul_tup, iEn, isND, ↓reduceIte, Bool.false_eq_true, List.length_cons, List.length_nil, Nat.reduceAdd, Nat.zero_add, sz_true, Nat.reduceLeDiff, eq_int, addL, List.cons_append, List.nil_append, ne_eq, reduceCtorEq, not_false_eq_true, not_true_eq_false, tru_bl, ex_cons, ex_two, ex_one, ex_i, ex_ij, ex_bl, ex_env, Bool.bne_false, Bool.bne_true, at3_0, at3_1, at3_2, seqx_tup, seqx_lst, negD, absD, addI, defl, lf1, Lf.d, List.getElem?_cons_zero, List.getElem?_cons_succ, List.set_cons_zero, List.set_cons_succ, Option.some.injEq, exists_eq_left', exists_eq_left, D.int.injEq, D.bl.injEq, D.tup.injEq, D.str.injEq, D.loc.injEq, D.lst.injEq, and_true, true_and, exists_and_left, exists_and_right, decide_eq_true_eq, Bool.not_eq_true', decide_eq_false_iff_not]
    refine eq_str hz (by decide +kernel) ?_
    rw [hk]
    simp only [wSs, wSt, wP, wEs, bAn, bOr, wOp, wCd, wIt, pr, prB, wTru, wB, wVar, wC, w1, w2, wL, wTup, wLst, wNew, wNil, wCons, wNot, wAnd, wOr, vNot, vAnd, vOr, wIf, wChain, wRet, wRetN, wIfS, wSeq, wSkip, wAsg, wPar, wTri, wPut, wDrop, wT, wTs, Ts.len, gN, gT, tupL, gNl, gCn, wSl, wSome, wNone, wEmp, wNewd, wNewd1, wCompT, wipeE, wFor, wComp, iR1, iSeq, Bo.o2, Co.o2, Bl.ol, Bt.ol, intD, subD, modD, fdivD, powD, boolD, ltD_int, mul_int, mul_tup, iEn, isND, ↓reduceIte, Bool.false_eq_true, List.length_cons, List.length_nil, Nat.reduceAdd, Nat.zero_add, sz_true, Nat.reduceLeDiff, eq_int, addL, List.cons_append, List.nil_append, ne_eq, reduceCtorEq, not_false_eq_true, not_true_eq_false, tru_bl, ex_cons, ex_two, ex_one, ex_i, ex_ij, ex_bl, ex_env, Bool.bne_false, Bool.bne_true, at3_0, at3_1, at3_2, seqx_tup, seqx_lst, negD, absD, addI, defl, lf1, Lf.d, List.getElem?_cons_zero, List.getElem?_cons_succ, List.set_cons_zero, List.set_cons_succ, Option.some.injEq, exists_eq_left', exists_eq_left, D.int.injEq, D.bl.injEq, D.tup.injEq, D.str.injEq, D.loc.injEq, D.lst.injEq, and_true, true_and, exists_and_left, exists_and_right, decide_eq_true_eq, Bool.not_eq_true', decide_eq_false_iff_not]
    split
    · rename_i zk
      refine in_eP ?_
      simp only [wSs, wSt, wP, wEs, bAn, bOr, wOp, wCd, wIt, pr, prB, wTru, wB, wVar, wC, w1, w2, wL, wTup, wLst, wNew, wNil, wCons, wNot, wAnd, wOr, vNot, vAnd, vOr, wIf, wChain, wRet, wRetN, wIfS, wSeq, wSkip, wAsg, wPar, wTri, wPut, wDrop, wT, wTs, Ts.len, gN, gT, tupL, gNl, gCn, wSl, wSome, wNone, wEmp, wNewd, wNewd1, wCompT, wipeE, wFor, wComp, iR1, iSeq, Bo.o2, Co.o2, Bl.ol, Bt.ol, intD, subD, modD, fdivD, powD, boolD, ltD_int, mul_int, mul_tup, iEn, isND, ↓reduceIte, Bool.false_eq_true, List.length_cons, List.length_nil, Nat.reduceAdd, Nat.zero_add, sz_true, Nat.reduceLeDiff, eq_int, addL, List.cons_append, List.nil_append, ne_eq, reduceCtorEq, not_false_eq_true, not_true_eq_false, tru_bl, ex_cons, ex_two, ex_one, ex_i, ex_ij, ex_bl, ex_env, Bool.bne_false, Bool.bne_true, at3_0, at3_1, at3_2, seqx_tup, seqx_lst, negD, absD, addI, defl, lf1, Lf.d, List.getElem?_cons_zero, List.getElem?_cons_succ, List.set_cons_zero, List.set_cons_succ, Option.some.injEq, exists_eq_left', exists_eq_left, D.int.injEq, D.bl.injEq, D.tup.injEq, D.str.injEq, D.loc.injEq, D.lst.injEq, and_true, true_and, exists_and_left, exists_and_right, decide_eq_true_eq, Bool.not_eq_true', decide_eq_false_iff_not]
      split
      · exact fin .leave (fun h => by cases h)
      · rename_i nn
        refine fin z fun _ => ?_
        simp only [Bool.or_eq_true, not_or, Option.isNone_iff_eq_none] at nn
        exact nn
    · rename_i zk
      exact fin z fun h => absurd h (by simpa using zk)
  simp only [wSs, wSt, wP, wEs, bAn, bOr, wOp, wCd, wIt, pr, prB, wTru, wB, wVar, wC, w1, w2, wL, wTup, wLst, wNew, wNil, wCons, wNot, wAnd, wOr, vNot, vAnd, vOr, wIf, wChain, wRet, wRetN, wIfS, wSeq, wSkip, wAsg, wPar, wTri, wPut, wDrop, wT, wTs, Ts.len, gN, gT, tupL, gNl, gCn, wSl, wSome, wNone, wEmp, wNewd, wNewd1, wCompT, wipeE, wFor, wComp, iR1, iSeq, Bo.o2, Co.o2, Bl.ol, Bt.ol, intD, subD, modD, fdivD, powD, boolD, ltD_int, mul_int, mul_tup, iEn, isND, ↓reduceIte, Bool.false_eq_true, List.length_cons, List.length_nil, Nat.reduceAdd, Nat.zero_add, sz_true, Nat.reduceLeDiff, eq_int, addL, List.cons_append, List.nil_append, ne_eq, reduceCtorEq, not_false_eq_true, not_true_eq_false, tru_bl, ex_cons, ex_two, ex_one, ex_i, ex_ij, ex_bl, ex_env, Bool.bne_false, Bool.bne_true, at3_0, at3_1, at3_2, seqx_tup, seqx_lst, negD, absD, addI, defl, lf1, Lf.d, List.getElem?_cons_zero, List.getElem?_cons_succ, List.set_cons_zero, List.set_cons_succ, Option.some.injEq, exists_eq_left', exists_eq_left, D.int.injEq, D.bl.injEq, D.tup.injEq, D.str.injEq, D.loc.injEq, D.lst.injEq, and_true, true_and, exists_and_left, exists_and_right, decide_eq_true_eq, Bool.not_eq_true', decide_eq_false_iff_not, h5, h6, h7, dipC_iff, pickC_iff, rangeK_iff]
  refine ⟨by omega, by omega, d1.spr, fun k S2 k0 k1 d2 => ?_⟩
  have d12 := d1.trans d2
  split
  · refine ⟨d2.spr, fun af S3 oka d3 => ⟨by omega, d3.spr, fun d S4 hd d4 => ?_⟩⟩
    have fin : ∀ a, OkP a → N [some (.loc p), some (.int n), none, some (eP ah), some (eP a)] S4 := fun a ha => hN2 (some a) _ (fun p e => by cases e; exact ha) ((d12.trans d3).trans d4)
    have sm : ∀ a b : Int, -6 ≤ a → a ≤ b → b ≤ 6 → OkP (some a, some b) := fun a b h1 h2 h3 => ⟨B6.some (by omega) (by omega), B6.some (by omega) (by omega), fun x y h h' => by cases h; cases h'; exact h2⟩
    simp only [List.mem_cons, List.not_mem_nil, or_false] at hd
    rcases hd with rfl | rfl | rfl | rfl | rfl
    · exact fin (some 1, some 1) (sm _ _ (by omega) (by omega) (by omega))
    · exact fin (some 1, some 2) (sm _ _ (by omega) (by omega) (by omega))
    · exact fin (some 0, some 0) (sm _ _ (by omega) (by omega) (by omega))
    · exact fin (some (-1), some 1) (sm _ _ (by omega) (by omega) (by omega))
    · exact fin _ oka
  · exact hN2 none _ (fun p e => by cases e) d12
theorem wp_window (Γ : Gm) : ∀ ds S Q, windowK ds S Q → wSs Γ b_window (inE n_window ds) S { nx := fun _ S' => Q .non S', rt := Q } := by
  rintro _ S Q ⟨n, rfl, q⟩
  show wSs Γ b_window [some (.int n)] S _
  simp only [wSs, wSt, wP, wEs, bAn, bOr, wOp, wCd, wIt, pr, prB, wTru, wB, wVar, wC, w1, w2, wL, wTup, wLst, wNew, wNil, wCons, wNot, wAnd, wOr, vNot, vAnd, vOr, wIf, wChain, wRet, wRetN, wIfS, wSeq, wSkip, wAsg, wPar, wTri, wPut, wDrop, wT, wTs, Ts.len, gN, gT, tupL, gNl, gCn, wSl, wSome, wNone, wEmp, wNewd, wNewd1, wCompT, wipeE, wFor, wComp, iR1, iSeq, Bo.o2, Co.o2, Bl.ol, Bt.ol, intD, subD, modD, fdivD, powD, boolD, ltD_int, mul_int, mul_tup, iEn, isND, ↓reduceIte, Bool.false_eq_true, List.length_cons, List.length_nil, Nat.reduceAdd, Nat.zero_add, sz_true, Nat.reduceLeDiff, eq_int, addL, List.cons_append, List.nil_append, ne_eq, reduceCtorEq, not_false_eq_true, not_true_eq_false, tru_bl, ex_cons, ex_two, ex_one, ex_i, ex_ij, ex_bl, ex_env, Bool.bne_false, Bool.bne_true, at3_0, at3_1, at3_2, seqx_tup, seqx_lst, negD, absD, addI, defl, lf1, Lf.d, List.getElem?_cons_zero, List.getElem?_cons_succ, List.set_cons_zero, List.set_cons_succ, Option.some.injEq, exists_eq_left', exists_eq_left, D.int.injEq, D.bl.injEq, D.tup.injEq, D.str.injEq, D.loc.injEq, D.lst.injEq, and_true, true_and, exists_and_left, exists_and_right, decide_eq_true_eq, Bool.not_eq_true', decide_eq_false_iff_not, b_window]
  exact q
end Pv

namespace Pv
open PySem L2 PySem.Spec PyProof.Rows
theorem lies_far {p : Option Int × Option Int} (h : OkP p) {n m : Int} (hn : 7 ≤ n) (hm : 7 ≤ m) : lies n p = lies m p := by
  obtain ⟨a, b⟩ := p
  have ha := h.lo
  have hb := h.hi
  unfold lies
  cases a with
  | none =>
    cases b with
    | none => rfl
    | some b =>
      have := hb b rfl
      simp only [Bool.true_and]
      rw [decide_eq_false (by omega), decide_eq_false (by omega)]
  | some a =>
    have := ha a rfl
    simp only
    rw [decide_eq_true (p := a ≤ n) (by omega), decide_eq_true (p := a ≤ m) (by omega)]
    cases b with
    | none => rfl
    | some b =>
      have := hb b rfl
      simp only
      rw [decide_eq_false (by omega), decide_eq_false (by omega)]
theorem lies_neg {p : Option Int × Option Int} (h : OkP p) {n m : Int} (hn : n ≤ -7) (hm : m ≤ -7) : lies n p = lies m p := by
  obtain ⟨a, b⟩ := p
  have ha := h.lo
  have hb := h.hi
  unfold lies
  cases a with
  | none =>
    cases b with
    | none => rfl
    | some b =>
      have := hb b rfl
      simp only [Bool.true_and]
      rw [decide_eq_true (p := n ≤ b) (by omega), decide_eq_true (p := m ≤ b) (by omega)]
  | some a =>
    have := ha a rfl
    simp only
    rw [decide_eq_false (p := a ≤ n) (by omega), decide_eq_false (p := a ≤ m) (by omega)]
    rfl
theorem so_far {w : Rw} {k : Nat} (h : w.Ok k) {g : Option Int} (hg : B6 g) {n m : Int} (hh : (13 ≤ n ∧ 13 ≤ m) ∨ (n ≤ -13 ∧ m ≤ -13)) : w.so g n = w.so g m := by
  unfold Rw.so
  have e1 : lies n (w.lo, w.hi) = lies m (w.lo, w.hi) := by
    rcases hh with ⟨h1, h2⟩ | ⟨h1, h2⟩
    · exact lies_far h.ah (by omega) (by omega)
    · exact lies_neg h.ah (by omega) (by omega)
  rw [e1]
  congr 1
  unfold aftB
  cases haf : w.af with
  | none => rfl
  | some p =>
    cases g with
    | none => rfl
    | some g =>
      have := hg g rfl
      have ok := h.af p haf
      rcases hh with ⟨h1, h2⟩ | ⟨h1, h2⟩
      · exact lies_far ok (by omega) (by omega)
      · exact lies_neg ok (by omega) (by omega)
/-- each step from 13 on is answered as 13 is, each one from -13 down as -13 -/
theorem stp_far {s r : Nat} {R : Rc} (hR : R.Ok s r) {rest : Rs} (h : Rs.Ok R rest) {n m : Int} (hh : (13 ≤ n ∧ 13 ≤ m) ∨ (n ≤ -13 ∧ m ≤ -13)) : stp R rest n = stp R rest m := by
  have hm := Rc.st_mem h.st
  have e : ∀ l : List Rw, (∀ w ∈ l, w.Ok R.length) → l.find? (·.so rest.2 n) = l.find? (·.so rest.2 m) := by
    intro l
    induction l with
    | nil => intro _; rfl
    | cons w l ih =>
      intro hl
      rw [List.find?_cons, List.find?_cons, so_far (hl w (by simp)) h.gp hh, ih fun w hw => hl w (by simp [hw])]
  unfold stp
  rw [e _ (hR.ok _ hm)]
  cases hf : (R.st rest.1).find? (·.so rest.2 m) with
  | none => rfl
  | some w =>
    simp only
    have ok := hR.ok _ hm w (List.mem_of_find?_eq_some hf)
    have so : w.so rest.2 m = true := by
      have q := List.find?_some (p := fun x : Rw => x.so rest.2 m) hf
      exact q
    unfold Rw.done
    split
    · rfl
    · rename_i hk
      exfalso
      obtain ⟨k1, k2⟩ := ok.kp hk
      unfold Rw.so lies at so
      simp only [Bool.and_eq_true] at so
      obtain ⟨⟨s1, s2⟩, _⟩ := so
      have a1 := ok.ah.lo
      have a2 := ok.ah.hi
      cases hl : w.lo with
      | none => exact k1 hl
      | some l =>
        cases hu : w.hi with
        | none => exact k2 hu
        | some u =>
          rw [hl] at s1 a1
          rw [hu] at s2 a2
          have b1 := a1 l rfl
          have b2 := a2 u rfl
          have c1 : l ≤ m := by simpa using s1
          have c2 : m ≤ u := by simpa using s2
          omega
    · rfl
    · rfl
theorem rest_stand (r : Rs) (l : Int) : restOf (standAt r l) = r := by
  obtain ⟨s, g⟩ := r
  cases g with
  | none => rfl
  | some g =>
    show (s, some (l + g - l)) = (s, some g)
    congr 2
    omega
theorem ix_eHr0 {p : Bool × Sd3} {S : Store} {Q : QE} : ixD (eHr p) (.int 0) S Q ↔ Q (.bl p.1) S := by simp [eHr, ix_tup, at2_0]
theorem ix_eHr1 {p : Bool × Sd3} {S : Store} {Q : QE} : ixD (eHr p) (.int 1) S Q ↔ Q (eSd p.2) S := by simp [eHr, ix_tup, at2_1]
end Pv

namespace Pv
open PySem L2 PySem.Spec PyProof.Rows
def walkR (R : Rc) : Sd3 → List Int → List Bool × Sd3
  | s, [] => ([], s)
  | s, n :: ns => ((hearR R s n).1 :: (walkR R (hearR R s n).2 ns).1, (walkR R (hearR R s n).2 ns).2)
def beg (l : Int) : Sd3 := (0, l, none)
def eIs (ns : List Int) : D := .tup (ns.map D.int)
def eBs (bs : List Bool) : D := .tup (bs.map D.bl)
def Sd3.Ok (R : Rc) (s : Sd3) : Prop := Rs.Ok R (restOf s)
theorem Sd3.Ok.st {R : Rc} {s : Sd3} (h : s.Ok R) : s.1 < R.length := Rs.Ok.st h
theorem beg_ok {s r : Nat} {R : Rc} (h : R.Ok s r) (l : Int) : (beg l).Ok R := ⟨h.l1, B6.none⟩
theorem hear_ok {s r : Nat} {R : Rc} (h : R.Ok s r) {t : Sd3} (ht : t.Ok R) (n : Int) : (hearR R t n).2.Ok R := by
  unfold hearR Sd3.Ok
  simp only [rest_stand]
  exact stp_ok h ht _
theorem walk_app (R : Rc) : ∀ (s : Sd3) (a b : List Int), walkR R s (a ++ b) = ((walkR R s a).1 ++ (walkR R (walkR R s a).2 b).1, (walkR R (walkR R s a).2 b).2)
  | s, [], b => rfl
  | s, n :: a, b => by
    show ((hearR R s n).1 :: (walkR R (hearR R s n).2 (a ++ b)).1, (walkR R (hearR R s n).2 (a ++ b)).2) = _
    rw [walk_app R _ a b]
    rfl
theorem walk_len (R : Rc) : ∀ (s : Sd3) (a : List Int), (walkR R s a).1.length = a.length
  | s, [] => rfl
  | s, n :: a => by
    show (_ :: (walkR R (hearR R s n).2 a).1).length = _
    rw [List.length_cons, walk_len R _ a]
    rfl
theorem walk_ok {s r : Nat} {R : Rc} (h : R.Ok s r) : ∀ (t : Sd3) (a : List Int), t.Ok R → (walkR R t a).2.Ok R
  | t, [], ht => ht
  | t, n :: a, ht => walk_ok h _ a (hear_ok h ht n)
def answersK : OL := fun ds S Q => ∃ R ns l, ds = [eRc R, eIs ns, .int l] ∧ Rc.Ok 100 100 R ∧ ns.length ≤ 100000 ∧ ∀ S', Ext S S' → Q (eBs (walkR R (beg l) ns).1) S'
theorem answersK_of {R : Rc} {ns : List Int} {l : Int} {S : Store} {Q : QE} (ok : Rc.Ok 100 100 R) (hl : ns.length ≤ 100000) (h : ∀ S', Ext S S' → Q (eBs (walkR R (beg l) ns).1) S') : answersK [eRc R, eIs ns, .int l] S Q := ⟨_, _, _, rfl, ok, hl, h⟩
def standsK : OL := fun ds S Q => ∃ R ns l, ds = [eRc R, eIs ns, .int l] ∧ Rc.Ok 100 100 R ∧ Q (eSd (walkR R (beg l) ns).2) S
theorem standsK_of {R : Rc} {ns : List Int} {l : Int} {S : Store} {Q : QE} (ok : Rc.Ok 100 100 R) (h : Q (eSd (walkR R (beg l) ns).2) S) : standsK [eRc R, eIs ns, .int l] S Q := ⟨_, _, _, rfl, ok, h⟩
def eWk (p : List Bool × Sd3) : D := .tup [eBs p.1, eSd p.2]
def walkK : OL := fun ds S Q => ∃ R l ns, ds = [eRc R, .int l, eIs ns] ∧ Rc.Ok 100 100 R ∧ ns.length ≤ 100000 ∧ ∀ S', Ext S S' → Q (eWk (walkR R (beg l) ns)) S'
theorem walkK_of {R : Rc} {ns : List Int} {l : Int} {S : Store} {Q : QE} (ok : Rc.Ok 100 100 R) (hl : ns.length ≤ 100000) (h : ∀ S', Ext S S' → Q (eWk (walkR R (beg l) ns)) S') : walkK [eRc R, .int l, eIs ns] S Q := ⟨_, _, _, rfl, ok, hl, h⟩
def numbersK : OL := fun ds S Q => ∃ p R o m, ds = [.loc p, eRc R, .int o, .int m] ∧ Rc.Ok 100 100 R ∧ 0 ≤ m ∧ m ≤ 1000 ∧ Spr S p ∧ ∀ ns S', (ns.length : Int) ≤ m → Dr p S S' → Q (eIs ns) S'
theorem numbersK_iff {p : Nat} {R : Rc} {o m : Int} {S : Store} {Q : QE} (ok : Rc.Ok 100 100 R) (h0 : 0 ≤ m) (h1 : m ≤ 1000) (hs : Spr S p) (h : ∀ ns S', (ns.length : Int) ≤ m → Dr p S S' → Q (eIs ns) S') : numbersK [.loc p, eRc R, .int o, .int m] S Q := ⟨_, _, _, _, rfl, ok, h0, h1, hs, h⟩
/-- a loop over a row of numbers -/
theorem forI_of {g : WG} {tb : WS} {src : Store → Option (List D)} {all : List D} {E : En} (I : List Int → Env → Store → Prop) (h0 : ∀ ρ S, I [] ρ S → E.nx ρ S)
    (h1 : ∀ n ns ρ S (N : Env → Store → Prop), I (n :: ns) ρ S → (∀ ρ2 S2, src S2 = some all → I ns ρ2 S2 → N ρ2 S2) → g (.int n) ρ S fun ρ1 S1 => tb ρ1 S1 { rt := E.rt, bk := E.nx, nx := N, ct := N }) : ∀ ns ρ S, I ns ρ S → forL g tb src all (ns.map D.int) ρ S E := by
  intro ns ρ S h
  refine forL_of (I := fun l ρ S => ∃ ns : List Int, l = ns.map D.int ∧ I ns ρ S) ?_ ?_ _ _ _ ⟨ns, rfl, h⟩
  · rintro ρ S ⟨ns, e, i⟩
    cases ns with
    | nil => exact h0 ρ S i
    | cons n ns => cases e
  · rintro x xs ρ S N ⟨ns, e, i⟩ hN
    cases ns with
    | nil => cases e
    | cons n ns =>
      cases e
      exact h1 n ns ρ S N i fun ρ2 S2 hs hi => hN ρ2 S2 hs ⟨ns, rfl, hi⟩
theorem seqx_eIs {ns : List Int} {S : Store} : seqX S (eIs ns) = some (ns.map D.int) := rfl
theorem wp_answers (Γ : Gm) {hear : Nat} (h1 : Γ.fn hear = hearK) : ∀ ds S Q, answersK ds S Q → wSs Γ (b_p_answers hear) (inE n_p_answers ds) S { nx := fun _ S' => Q .non S', rt := Q } := by
  rintro _ S Q ⟨R, ns, l, rfl, ok, hl, q⟩
  have z := szM
  show wSs Γ (b_p_answers hear) [some (eRc R), some (eIs ns), some (.int l), none, none, none, none] S _
  refine seq_gen fun N hN => ?_
  simp only [wSs, wSt, wP, wEs, bAn, bOr, wOp, wCd, wIt, pr, prB, wTru, wB, wVar, wC, w1, w2, wL, wTup, wLst, wNew, wNil, wCons, wNot, wAnd, wOr, vNot, vAnd, vOr, wIf, wChain, wRet, wRetN, wIfS, wSeq, wSkip, wAsg, wPar, wTri, wPut, wDrop, wT, wTs, Ts.len, gN, gT, tupL, gNl, gCn, wSl, wSome, wNone, wEmp, wNewd, wNewd1, wCompT, wipeE, wFor, wComp, iR1, iSeq, Bo.o2, Co.o2, Bl.ol, Bt.ol, intD, subD, modD, fdivD, powD, boolD, ltD_int, mul_int, mul_tup, iEn, isND, ↓reduceIte, Bool.false_eq_true, List.length_cons, List.length_nil, Nat.reduceAdd, Nat.zero_add, sz_true, Nat.reduceLeDiff, eq_int, addL, List.cons_append, List.nil_append, ne_eq, reduceCtorEq, not_false_eq_true, not_true_eq_false, tru_bl, ex_cons, ex_two, ex_one, ex_i, ex_ij, ex_bl, ex_env, Bool.bne_false, Bool.bne_true, at3_0, at3_1, at3_2, seqx_tup, seqx_lst, negD, absD, addI, defl, lf1, Lf.d, List.getElem?_cons_zero, List.getElem?_cons_succ, List.set_cons_zero, List.set_cons_succ, Option.some.injEq, exists_eq_left', exists_eq_left, D.int.injEq, D.bl.injEq, D.tup.injEq, D.str.injEq, D.loc.injEq, D.lst.injEq, and_true, true_and, exists_and_left, exists_and_right, decide_eq_true_eq, Bool.not_eq_true', decide_eq_false_iff_not]
  refine hN _ _ (seq_gen fun N hN => ?_)
  simp only [wSs, wSt, wP, wEs, bAn, bOr, wOp, wCd, wIt, pr, prB, wTru, wB, wVar, wC, w1, w2, wL, wTup, wLst, wNew, wNil, wCons, wNot, wAnd, wOr, vNot, vAnd, vOr, wIf, wChain, wRet, wRetN, wIfS, wSeq, wSkip, wAsg, wPar, wTri, wPut, wDrop, wT, wTs, Ts.len, gN, gT, tupL, gNl, gCn, wSl, wSome, wNone, wEmp, wNewd, wNewd1, wCompT, wipeE, wFor, wComp, iR1, iSeq, Bo.o2, Co.o2, Bl.ol, Bt.ol, intD, subD, modD, fdivD, powD, boolD, ltD_int, mul_int, mul_tup, iEn, isND, ↓reduceIte, Bool.false_eq_true, List.length_cons, List.length_nil, Nat.reduceAdd, Nat.zero_add, sz_true, Nat.reduceLeDiff, eq_int, addL, List.cons_append, List.nil_append, ne_eq, reduceCtorEq, not_false_eq_true, not_true_eq_false, tru_bl, ex_cons, ex_two, ex_one, ex_i, ex_ij, ex_bl, ex_env, Bool.bne_false, Bool.bne_true, at3_0, at3_1, at3_2, seqx_tup, seqx_lst, negD, absD, addI, defl, lf1, Lf.d, List.getElem?_cons_zero, List.getElem?_cons_succ, List.set_cons_zero, List.set_cons_succ, Option.some.injEq, exists_eq_left', exists_eq_left, D.int.injEq, D.bl.injEq, D.tup.injEq, D.str.injEq, D.loc.injEq, D.lst.injEq, and_true, true_and, exists_and_left, exists_and_right, decide_eq_true_eq, Bool.not_eq_true', decide_eq_false_iff_not]
  refine hN _ _ (seq_gen fun N hN => ?_)
  have fin : ∀ s a b S', Ext S S' → S'[S.length]? = some (.lst ((walkR R (beg l) ns).1.map D.bl)) → N [some (eRc R), some (eIs ns), some (.int l), some s, some (.loc S.length), a, b] S' := by
    intro s a b S' ex hf
    refine hN _ _ (seq_one ?_)
    simp only [wSs, wSt, wP, wEs, bAn, bOr, wOp, wCd, wIt, pr, prB, wTru, wB, wVar, wC, w1, w2, wL, wTup, wLst, wNew, wNil, wCons, wNot, wAnd, wOr, vNot, vAnd, vOr, wIf, wChain, wRet, wRetN, wIfS, wSeq, wSkip, wAsg, wPar, wTri, wPut, wDrop, wT, wTs, Ts.len, gN, gT, tupL, gNl, gCn, wSl, wSome, wNone, wEmp, wNewd, wNewd1, wCompT, wipeE, wFor, wComp, iR1, iSeq, Bo.o2, Co.o2, Bl.ol, Bt.ol, intD, subD, modD, fdivD, powD, boolD, ltD_int, mul_int, mul_tup, iEn, isND, ↓reduceIte, Bool.false_eq_true, List.length_cons, List.length_nil, Nat.reduceAdd, Nat.zero_add, sz_true, Nat.reduceLeDiff, eq_int, addL, List.cons_append, List.nil_append, ne_eq, reduceCtorEq, not_false_eq_true, not_true_eq_false, tru_bl, ex_cons, ex_two, ex_one, ex_i, ex_ij, ex_bl, ex_env, Bool.bne_false, Bool.bne_true, at3_0, at3_1, at3_2, seqx_tup, seqx_lst, negD, absD, addI, defl, lf1, Lf.d, List.getElem?_cons_zero, List.getElem?_cons_succ, List.set_cons_zero, List.set_cons_succ, Option.some.injEq, exists_eq_left', exists_eq_left, D.int.injEq, D.bl.injEq, D.tup.injEq, D.str.injEq, D.loc.injEq, D.lst.injEq, and_true, true_and, exists_and_left, exists_and_right, decide_eq_true_eq, Bool.not_eq_true', decide_eq_false_iff_not, tup_loc hf]
    exact q _ ex
  clear hN
  refine for_step fun B hB => ?_
  simp only [wSs, wSt, wP, wEs, bAn, bOr, wOp, wCd, wIt, pr, prB, wTru, wB, wVar, wC, w1, w2, wL, wTup, wLst, wNew, wNil, wCons, wNot, wAnd, wOr, vNot, vAnd, vOr, wIf, wChain, wRet, wRetN, wIfS, wSeq, wSkip, wAsg, wPar, wTri, wPut, wDrop, wT, wTs, Ts.len, gN, gT, tupL, gNl, gCn, wSl, wSome, wNone, wEmp, wNewd, wNewd1, wCompT, wipeE, wFor, wComp, iR1, iSeq, Bo.o2, Co.o2, Bl.ol, Bt.ol, intD, subD, modD, fdivD, powD, boolD, ltD_int, mul_int, mul_tup, iEn, isND, ↓reduceIte, Bool.false_eq_true, List.length_cons, List.length_nil, Nat.reduceAdd, Nat.zero_add, sz_true, Nat.reduceLeDiff, eq_int, addL, List.cons_append, List.nil_append, ne_eq, reduceCtorEq, not_false_eq_true, not_true_eq_false, tru_bl, ex_cons, ex_two, ex_one, ex_i, ex_ij, ex_bl, ex_env, Bool.bne_false, Bool.bne_true, at3_0, at3_1, at3_2, seqx_tup, seqx_lst, negD, absD, addI, defl, lf1, Lf.d, List.getElem?_cons_zero, List.getElem?_cons_succ, List.set_cons_zero, List.set_cons_succ, Option.some.injEq, exists_eq_left', exists_eq_left, D.int.injEq, D.bl.injEq, D.tup.injEq, D.str.injEq, D.loc.injEq, D.lst.injEq, and_true, true_and, exists_and_left, exists_and_right, decide_eq_true_eq, Bool.not_eq_true', decide_eq_false_iff_not, seqx_eIs]
  refine forI_of (fun rest ρ S' => Ext S S' ∧ ∃ s acc a b, ρ = [some (eRc R), some (eIs ns), some (.int l), some (eSd s), some (.loc S.length), a, b] ∧ S'[S.length]? = some (.lst (acc.map D.bl)) ∧ s.Ok R ∧ walkR R (beg l) ns = (acc ++ (walkR R s rest).1, (walkR R s rest).2) ∧ acc.length + rest.length = ns.length) ?_ ?_ _ _ _ ?_
  · rintro ρ S' ⟨ex, s, acc, a, b, rfl, hf, hs, hw, hn⟩
    refine fin _ _ _ _ ex ?_
    rw [hw]
    simpa [walkR] using hf
  · rintro n rest ρ S' M ⟨ex, s, acc, a, b, rfl, hf, hs, hw, hn⟩ hM
    subst hB
    have hlt : S.length < S'.length := by
      rcases Nat.lt_or_ge S.length S'.length with u | u
      · exact u
      · rw [List.getElem?_eq_none u] at hf
        cases hf
    refine seq_gen fun N hN => ?_
    simp only [wSs, wSt, wP, wEs, bAn, bOr, wOp, wCd, wIt, pr, prB, wTru, wB, wVar, wC, w1, w2, wL, wTup, wLst, wNew, wNil, wCons, wNot, wAnd, wOr, vNot, vAnd, vOr, wIf, wChain, wRet, wRetN, wIfS, wSeq, wSkip, wAsg, wPar, wTri, wPut, wDrop, wT, wTs, Ts.len, gN, gT, tupL, gNl, gCn, wSl, wSome, wNone, wEmp, wNewd, wNewd1, wCompT, wipeE, wFor, wComp, iR1, iSeq, Bo.o2, Co.o2, Bl.ol, Bt.ol, intD, subD, modD, fdivD, powD, boolD, ltD_int, mul_int, mul_tup, iEn, isND, ↓reduceIte, Bool.false_eq_true, List.length_cons, List.length_nil, Nat.reduceAdd, Nat.zero_add, sz_true, Nat.reduceLeDiff, eq_int, addL, List.cons_append, List.nil_append, ne_eq, reduceCtorEq, not_false_eq_true, not_true_eq_false, tru_bl, ex_cons, ex_two, ex_one, ex_i, ex_ij, ex_bl, ex_env, Bool.bne_false, Bool.bne_true, at3_0, at3_1, at3_2, seqx_tup, seqx_lst, negD, absD, addI, defl, lf1, Lf.d, List.getElem?_cons_zero, List.getElem?_cons_succ, List.set_cons_zero, List.set_cons_succ, Option.some.injEq, exists_eq_left', exists_eq_left, D.int.injEq, D.bl.injEq, D.tup.injEq, D.str.injEq, D.loc.injEq, D.lst.injEq, and_true, true_and, exists_and_left, exists_and_right, decide_eq_true_eq, Bool.not_eq_true', decide_eq_false_iff_not, h1]
    refine hearK_of ok hs.st ?_
    unfold eHr
    simp only [wSs, wSt, wP, wEs, bAn, bOr, wOp, wCd, wIt, pr, prB, wTru, wB, wVar, wC, w1, w2, wL, wTup, wLst, wNew, wNil, wCons, wNot, wAnd, wOr, vNot, vAnd, vOr, wIf, wChain, wRet, wRetN, wIfS, wSeq, wSkip, wAsg, wPar, wTri, wPut, wDrop, wT, wTs, Ts.len, gN, gT, tupL, gNl, gCn, wSl, wSome, wNone, wEmp, wNewd, wNewd1, wCompT, wipeE, wFor, wComp, iR1, iSeq, Bo.o2, Co.o2, Bl.ol, Bt.ol, intD, subD, modD, fdivD, powD, boolD, ltD_int, mul_int, mul_tup, iEn, isND, ↓reduceIte, Bool.false_eq_true, List.length_cons, List.length_nil, Nat.reduceAdd, Nat.zero_add, sz_true, Nat.reduceLeDiff, eq_int, addL, List.cons_append, List.nil_append, ne_eq, reduceCtorEq, not_false_eq_true, not_true_eq_false, tru_bl, ex_cons, ex_two, ex_one, ex_i, ex_ij, ex_bl, ex_env, Bool.bne_false, Bool.bne_true, at3_0, at3_1, at3_2, seqx_tup, seqx_lst, negD, absD, addI, defl, lf1, Lf.d, List.getElem?_cons_zero, List.getElem?_cons_succ, List.set_cons_zero, List.set_cons_succ, Option.some.injEq, exists_eq_left', exists_eq_left, D.int.injEq, D.bl.injEq, D.tup.injEq, D.str.injEq, D.loc.injEq, D.lst.injEq, and_true, true_and, exists_and_left, exists_and_right, decide_eq_true_eq, Bool.not_eq_true', decide_eq_false_iff_not]
    refine hN _ _ (seq_one ?_)
    simp only [wSs, wSt, wP, wEs, bAn, bOr, wOp, wCd, wIt, pr, prB, wTru, wB, wVar, wC, w1, w2, wL, wTup, wLst, wNew, wNil, wCons, wNot, wAnd, wOr, vNot, vAnd, vOr, wIf, wChain, wRet, wRetN, wIfS, wSeq, wSkip, wAsg, wPar, wTri, wPut, wDrop, wT, wTs, Ts.len, gN, gT, tupL, gNl, gCn, wSl, wSome, wNone, wEmp, wNewd, wNewd1, wCompT, wipeE, wFor, wComp, iR1, iSeq, Bo.o2, Co.o2, Bl.ol, Bt.ol, intD, subD, modD, fdivD, powD, boolD, ltD_int, mul_int, mul_tup, iEn, isND, ↓reduceIte, Bool.false_eq_true, List.length_cons, List.length_nil, Nat.reduceAdd, Nat.zero_add, sz_true, Nat.reduceLeDiff, eq_int, addL, List.cons_append, List.nil_append, ne_eq, reduceCtorEq, not_false_eq_true, not_true_eq_false, tru_bl, ex_cons, ex_two, ex_one, ex_i, ex_ij, ex_bl, ex_env, Bool.bne_false, Bool.bne_true, at3_0, at3_1, at3_2, seqx_tup, seqx_lst, negD, absD, addI, defl, lf1, Lf.d, List.getElem?_cons_zero, List.getElem?_cons_succ, List.set_cons_zero, List.set_cons_succ, Option.some.injEq, exists_eq_left', exists_eq_left, D.int.injEq, D.bl.injEq, D.tup.injEq, D.str.injEq, D.loc.injEq, D.lst.injEq, and_true, true_and, exists_and_left, exists_and_right, decide_eq_true_eq, Bool.not_eq_true', decide_eq_false_iff_not, app_iff hf]
    simp only [List.length_cons] at hn
    refine ⟨⟨_, seq_loc hf⟩, by rw [List.length_map]; omega, hM _ _ rfl ⟨ex.put (Nat.le_refl _), (hearR R s n).2, acc ++ [(hearR R s n).1], _, _, rfl, ?_, hear_ok ok hs n, ?_, ?_⟩⟩
    · rw [List.getElem?_set_self hlt]
      simp
    · rw [hw]
      simp [walkR]
    · simp only [List.length_append, List.length_cons, List.length_nil]
      omega
  · exact ⟨(Ext.refl S).new, beg l, [], _, _, rfl, by simp, beg_ok ok l, by simp, by simp⟩
theorem wp_stand_after (Γ : Gm) {hear : Nat} (h1 : Γ.fn hear = hearK) : ∀ ds S Q, standsK ds S Q → wSs Γ (b_p_stand_after hear) (inE n_p_stand_after ds) S { nx := fun _ S' => Q .non S', rt := Q } := by
  rintro _ S Q ⟨R, ns, l, rfl, ok, q⟩
  have z := szM
  show wSs Γ (b_p_stand_after hear) [some (eRc R), some (eIs ns), some (.int l), none, none, none] S _
  refine seq_gen fun N hN => ?_
  simp only [wSs, wSt, wP, wEs, bAn, bOr, wOp, wCd, wIt, pr, prB, wTru, wB, wVar, wC, w1, w2, wL, wTup, wLst, wNew, wNil, wCons, wNot, wAnd, wOr, vNot, vAnd, vOr, wIf, wChain, wRet, wRetN, wIfS, wSeq, wSkip, wAsg, wPar, wTri, wPut, wDrop, wT, wTs, Ts.len, gN, gT, tupL, gNl, gCn, wSl, wSome, wNone, wEmp, wNewd, wNewd1, wCompT, wipeE, wFor, wComp, iR1, iSeq, Bo.o2, Co.o2, Bl.ol, Bt.ol, intD, subD, modD, fdivD, powD, boolD, ltD_int, mul_int, mul_tup, iEn, isND, ↓reduceIte, Bool.false_eq_true, List.length_cons, List.length_nil, Nat.reduceAdd, Nat.zero_add, sz_true, Nat.reduceLeDiff, eq_int, addL, List.cons_append, List.nil_append, ne_eq, reduceCtorEq, not_false_eq_true, not_true_eq_false, tru_bl, ex_cons, ex_two, ex_one, ex_i, ex_ij, ex_bl, ex_env, Bool.bne_false, Bool.bne_true, at3_0, at3_1, at3_2, seqx_tup, seqx_lst, negD, absD, addI, defl, lf1, Lf.d, List.getElem?_cons_zero, List.getElem?_cons_succ, List.set_cons_zero, List.set_cons_succ, Option.some.injEq, exists_eq_left', exists_eq_left, D.int.injEq, D.bl.injEq, D.tup.injEq, D.str.injEq, D.loc.injEq, D.lst.injEq, and_true, true_and, exists_and_left, exists_and_right, decide_eq_true_eq, Bool.not_eq_true', decide_eq_false_iff_not]
  refine hN _ _ (seq_gen fun N hN => ?_)
  have fin : ∀ a b, N [some (eRc R), some (eIs ns), some (.int l), some (eSd (walkR R (beg l) ns).2), a, b] S := by
    intro a b
    refine hN _ _ (seq_one ?_)
    simp only [wSs, wSt, wP, wEs, bAn, bOr, wOp, wCd, wIt, pr, prB, wTru, wB, wVar, wC, w1, w2, wL, wTup, wLst, wNew, wNil, wCons, wNot, wAnd, wOr, vNot, vAnd, vOr, wIf, wChain, wRet, wRetN, wIfS, wSeq, wSkip, wAsg, wPar, wTri, wPut, wDrop, wT, wTs, Ts.len, gN, gT, tupL, gNl, gCn, wSl, wSome, wNone, wEmp, wNewd, wNewd1, wCompT, wipeE, wFor, wComp, iR1, iSeq, Bo.o2, Co.o2, Bl.ol, Bt.ol, intD, subD, modD, fdivD, powD, boolD, ltD_int, mul_int, mul_tup, iEn, isND, ↓reduceIte, Bool.false_eq_true, List.length_cons, List.length_nil, Nat.reduceAdd, Nat.zero_add, sz_true, Nat.reduceLeDiff, eq_int, addL, List.cons_append, List.nil_append, ne_eq, reduceCtorEq, not_false_eq_true, not_true_eq_false, tru_bl, ex_cons, ex_two, ex_one, ex_i, ex_ij, ex_bl, ex_env, Bool.bne_false, Bool.bne_true, at3_0, at3_1, at3_2, seqx_tup, seqx_lst, negD, absD, addI, defl, lf1, Lf.d, List.getElem?_cons_zero, List.getElem?_cons_succ, List.set_cons_zero, List.set_cons_succ, Option.some.injEq, exists_eq_left', exists_eq_left, D.int.injEq, D.bl.injEq, D.tup.injEq, D.str.injEq, D.loc.injEq, D.lst.injEq, and_true, true_and, exists_and_left, exists_and_right, decide_eq_true_eq, Bool.not_eq_true', decide_eq_false_iff_not]
    exact q
  clear hN
  refine for_step fun B hB => ?_
  simp only [wSs, wSt, wP, wEs, bAn, bOr, wOp, wCd, wIt, pr, prB, wTru, wB, wVar, wC, w1, w2, wL, wTup, wLst, wNew, wNil, wCons, wNot, wAnd, wOr, vNot, vAnd, vOr, wIf, wChain, wRet, wRetN, wIfS, wSeq, wSkip, wAsg, wPar, wTri, wPut, wDrop, wT, wTs, Ts.len, gN, gT, tupL, gNl, gCn, wSl, wSome, wNone, wEmp, wNewd, wNewd1, wCompT, wipeE, wFor, wComp, iR1, iSeq, Bo.o2, Co.o2, Bl.ol, Bt.ol, intD, subD, modD, fdivD, powD, boolD, ltD_int, mul_int, mul_tup, iEn, isND, ↓reduceIte, Bool.false_eq_true, List.length_cons, List.length_nil, Nat.reduceAdd, Nat.zero_add, sz_true, Nat.reduceLeDiff, eq_int, addL, List.cons_append, List.nil_append, ne_eq, reduceCtorEq, not_false_eq_true, not_true_eq_false, tru_bl, ex_cons, ex_two, ex_one, ex_i, ex_ij, ex_bl, ex_env, Bool.bne_false, Bool.bne_true, at3_0, at3_1, at3_2, seqx_tup, seqx_lst, negD, absD, addI, defl, lf1, Lf.d, List.getElem?_cons_zero, List.getElem?_cons_succ, List.set_cons_zero, List.set_cons_succ, Option.some.injEq, exists_eq_left', exists_eq_left, D.int.injEq, D.bl.injEq, D.tup.injEq, D.str.injEq, D.loc.injEq, D.lst.injEq, and_true, true_and, exists_and_left, exists_and_right, decide_eq_true_eq, Bool.not_eq_true', decide_eq_false_iff_not, seqx_eIs]
  refine forI_of (fun rest ρ S' => S' = S ∧ ∃ s a b, ρ = [some (eRc R), some (eIs ns), some (.int l), some (eSd s), a, b] ∧ s.Ok R ∧ (walkR R (beg l) ns).2 = (walkR R s rest).2) ?_ ?_ _ _ _ ?_
  · rintro ρ S' ⟨rfl, s, a, b, rfl, hs, hw⟩
    have := fin a b
    rw [hw] at this
    exact this
  · rintro n rest ρ S' M ⟨rfl, s, a, b, rfl, hs, hw⟩ hM
    subst hB
    refine seq_one ?_
    simp only [wSs, wSt, wP, wEs, bAn, bOr, wOp, wCd, wIt, pr, prB, wTru, wB, wVar, wC, w1, w2, wL, wTup, wLst, wNew, wNil, wCons, wNot, wAnd, wOr, vNot, vAnd, vOr, wIf, wChain, wRet, wRetN, wIfS, wSeq, wSkip, wAsg, wPar, wTri, wPut, wDrop, wT, wTs, Ts.len, gN, gT, tupL, gNl, gCn, wSl, wSome, wNone, wEmp, wNewd, wNewd1, wCompT, wipeE, wFor, wComp, iR1, iSeq, Bo.o2, Co.o2, Bl.ol, Bt.ol, intD, subD, modD, fdivD, powD, boolD, ltD_int, mul_int, mul_tup, iEn, isND, ↓reduceIte, Bool.false_eq_true, List.length_cons, List.length_nil, Nat.reduceAdd, Nat.zero_add, sz_true, Nat.reduceLeDiff, eq_int, addL, List.cons_append, List.nil_append, ne_eq, reduceCtorEq, not_false_eq_true, not_true_eq_false, tru_bl, ex_cons, ex_two, ex_one, ex_i, ex_ij, ex_bl, ex_env, Bool.bne_false, Bool.bne_true, at3_0, at3_1, at3_2, seqx_tup, seqx_lst, negD, absD, addI, defl, lf1, Lf.d, List.getElem?_cons_zero, List.getElem?_cons_succ, List.set_cons_zero, List.set_cons_succ, Option.some.injEq, exists_eq_left', exists_eq_left, D.int.injEq, D.bl.injEq, D.tup.injEq, D.str.injEq, D.loc.injEq, D.lst.injEq, and_true, true_and, exists_and_left, exists_and_right, decide_eq_true_eq, Bool.not_eq_true', decide_eq_false_iff_not, h1]
    refine hearK_of ok hs.st ?_
    unfold eHr
    simp only [wSs, wSt, wP, wEs, bAn, bOr, wOp, wCd, wIt, pr, prB, wTru, wB, wVar, wC, w1, w2, wL, wTup, wLst, wNew, wNil, wCons, wNot, wAnd, wOr, vNot, vAnd, vOr, wIf, wChain, wRet, wRetN, wIfS, wSeq, wSkip, wAsg, wPar, wTri, wPut, wDrop, wT, wTs, Ts.len, gN, gT, tupL, gNl, gCn, wSl, wSome, wNone, wEmp, wNewd, wNewd1, wCompT, wipeE, wFor, wComp, iR1, iSeq, Bo.o2, Co.o2, Bl.ol, Bt.ol, intD, subD, modD, fdivD, powD, boolD, ltD_int, mul_int, mul_tup, iEn, isND, ↓reduceIte, Bool.false_eq_true, List.length_cons, List.length_nil, Nat.reduceAdd, Nat.zero_add, sz_true, Nat.reduceLeDiff, eq_int, addL, List.cons_append, List.nil_append, ne_eq, reduceCtorEq, not_false_eq_true, not_true_eq_false, tru_bl, ex_cons, ex_two, ex_one, ex_i, ex_ij, ex_bl, ex_env, Bool.bne_false, Bool.bne_true, at3_0, at3_1, at3_2, seqx_tup, seqx_lst, negD, absD, addI, defl, lf1, Lf.d, List.getElem?_cons_zero, List.getElem?_cons_succ, List.set_cons_zero, List.set_cons_succ, Option.some.injEq, exists_eq_left', exists_eq_left, D.int.injEq, D.bl.injEq, D.tup.injEq, D.str.injEq, D.loc.injEq, D.lst.injEq, and_true, true_and, exists_and_left, exists_and_right, decide_eq_true_eq, Bool.not_eq_true', decide_eq_false_iff_not]
    exact hM _ _ rfl ⟨rfl, (hearR R s n).2, _, _, rfl, hear_ok ok hs n, hw⟩
  · exact ⟨rfl, beg l, _, _, rfl, beg_ok ok l, rfl⟩
theorem wp_walk (Γ : Gm) {heard : Nat} (h1 : Γ.fn heard = hearK) : ∀ ds S Q, walkK ds S Q → wSs Γ (b_walk heard) (inE n_walk ds) S { nx := fun _ S' => Q .non S', rt := Q } := by
  rintro _ S Q ⟨R, l, ns, rfl, ok, hl, q⟩
  have z := szM
  show wSs Γ (b_walk heard) [some (eRc R), some (.int l), some (eIs ns), none, none, none, none] S _
  refine seq_gen fun N hN => ?_
  simp only [wSs, wSt, wP, wEs, bAn, bOr, wOp, wCd, wIt, pr, prB, wTru, wB, wVar, wC, w1, w2, wL, wTup, wLst, wNew, wNil, wCons, wNot, wAnd, wOr, vNot, vAnd, vOr, wIf, wChain, wRet, wRetN, wIfS, wSeq, wSkip, wAsg, wPar, wTri, wPut, wDrop, wT, wTs, Ts.len, gN, gT, tupL, gNl, gCn, wSl, wSome, wNone, wEmp, wNewd, wNewd1, wCompT, wipeE, wFor, wComp, iR1, iSeq, Bo.o2, Co.o2, Bl.ol, Bt.ol, intD, subD, modD, fdivD, powD, boolD, ltD_int, mul_int, mul_tup, iEn, isND, ↓reduceIte, Bool.false_eq_true, List.length_cons, List.length_nil, Nat.reduceAdd, Nat.zero_add, sz_true, Nat.reduceLeDiff, eq_int, addL, List.cons_append, List.nil_append, ne_eq, reduceCtorEq, not_false_eq_true, not_true_eq_false, tru_bl, ex_cons, ex_two, ex_one, ex_i, ex_ij, ex_bl, ex_env, Bool.bne_false, Bool.bne_true, at3_0, at3_1, at3_2, seqx_tup, seqx_lst, negD, absD, addI, defl, lf1, Lf.d, List.getElem?_cons_zero, List.getElem?_cons_succ, List.set_cons_zero, List.set_cons_succ, Option.some.injEq, exists_eq_left', exists_eq_left, D.int.injEq, D.bl.injEq, D.tup.injEq, D.str.injEq, D.loc.injEq, D.lst.injEq, and_true, true_and, exists_and_left, exists_and_right, decide_eq_true_eq, Bool.not_eq_true', decide_eq_false_iff_not]
  refine hN _ _ ?_
  clear hN N
  refine seq_gen fun N hN => ?_
  have fin : ∀ a b S', Ext S S' → S'[S.length]? = some (.lst ((walkR R (beg l) ns).1.map D.bl)) → N [some (eRc R), some (.int l), some (eIs ns), a, some (eSd (walkR R (beg l) ns).2), some (.loc S.length), b] S' := by
    intro a b S' ex hf
    refine hN _ _ (seq_one ?_)
    simp only [wSs, wSt, wP, wEs, bAn, bOr, wOp, wCd, wIt, pr, prB, wTru, wB, wVar, wC, w1, w2, wL, wTup, wLst, wNew, wNil, wCons, wNot, wAnd, wOr, vNot, vAnd, vOr, wIf, wChain, wRet, wRetN, wIfS, wSeq, wSkip, wAsg, wPar, wTri, wPut, wDrop, wT, wTs, Ts.len, gN, gT, tupL, gNl, gCn, wSl, wSome, wNone, wEmp, wNewd, wNewd1, wCompT, wipeE, wFor, wComp, iR1, iSeq, Bo.o2, Co.o2, Bl.ol, Bt.ol, intD, subD, modD, fdivD, powD, boolD, ltD_int, mul_int, mul_tup, iEn, isND, ↓reduceIte, Bool.false_eq_true, List.length_cons, List.length_nil, Nat.reduceAdd, Nat.zero_add, sz_true, Nat.reduceLeDiff, eq_int, addL, List.cons_append, List.nil_append, ne_eq, reduceCtorEq, not_false_eq_true, not_true_eq_false, tru_bl, ex_cons, ex_two, ex_one, ex_i, ex_ij, ex_bl, ex_env, Bool.bne_false, Bool.bne_true, at3_0, at3_1, at3_2, seqx_tup, seqx_lst, negD, absD, addI, defl, lf1, Lf.d, List.getElem?_cons_zero, List.getElem?_cons_succ, List.set_cons_zero, List.set_cons_succ, Option.some.injEq, exists_eq_left', exists_eq_left, D.int.injEq, D.bl.injEq, D.tup.injEq, D.str.injEq, D.loc.injEq, D.lst.injEq, and_true, true_and, exists_and_left, exists_and_right, decide_eq_true_eq, Bool.not_eq_true', decide_eq_false_iff_not, tup_loc hf]
    exact q _ ex
  refine for_step fun B hB => ?_
  simp only [wSs, wSt, wP, wEs, bAn, bOr, wOp, wCd, wIt, pr, prB, wTru, wB, wVar, wC, w1, w2, wL, wTup, wLst, wNew, wNil, wCons, wNot, wAnd, wOr, vNot, vAnd, vOr, wIf, wChain, wRet, wRetN, wIfS, wSeq, wSkip, wAsg, wPar, wTri, wPut, wDrop, wT, wTs, Ts.len, gN, gT, tupL, gNl, gCn, wSl, wSome, wNone, wEmp, wNewd, wNewd1, wCompT, wipeE, wFor, wComp, iR1, iSeq, Bo.o2, Co.o2, Bl.ol, Bt.ol, intD, subD, modD, fdivD, powD, boolD, ltD_int, mul_int, mul_tup, iEn, isND, ↓reduceIte, Bool.false_eq_true, List.length_cons, List.length_nil, Nat.reduceAdd, Nat.zero_add, sz_true, Nat.reduceLeDiff, eq_int, addL, List.cons_append, List.nil_append, ne_eq, reduceCtorEq, not_false_eq_true, not_true_eq_false, tru_bl, ex_cons, ex_two, ex_one, ex_i, ex_ij, ex_bl, ex_env, Bool.bne_false, Bool.bne_true, at3_0, at3_1, at3_2, seqx_tup, seqx_lst, negD, absD, addI, defl, lf1, Lf.d, List.getElem?_cons_zero, List.getElem?_cons_succ, List.set_cons_zero, List.set_cons_succ, Option.some.injEq, exists_eq_left', exists_eq_left, D.int.injEq, D.bl.injEq, D.tup.injEq, D.str.injEq, D.loc.injEq, D.lst.injEq, and_true, true_and, exists_and_left, exists_and_right, decide_eq_true_eq, Bool.not_eq_true', decide_eq_false_iff_not, seqx_eIs]
  refine forI_of (fun rest ρ S' => Ext S S' ∧ ∃ s acc a b, ρ = [some (eRc R), some (.int l), some (eIs ns), a, some (eSd s), some (.loc S.length), b] ∧ S'[S.length]? = some (.lst (acc.map D.bl)) ∧ s.Ok R ∧ walkR R (beg l) ns = (acc ++ (walkR R s rest).1, (walkR R s rest).2) ∧ acc.length + rest.length = ns.length) ?_ ?_ _ _ _ ?_
  · rintro ρ S' ⟨ex, s, acc, a, b, rfl, hf, hs, hw, hn⟩
    have := fin a b S' ex (by rw [hw]; simpa [walkR] using hf)
    rw [hw] at this
    exact this
  · rintro n rest ρ S' M ⟨ex, s, acc, a, b, rfl, hf, hs, hw, hn⟩ hM
    subst hB
    have hlt : S.length < S'.length := by
      rcases Nat.lt_or_ge S.length S'.length with u | u
      · exact u
      · rw [List.getElem?_eq_none u] at hf
        cases hf
    refine seq_gen fun N hN => ?_
    simp only [wSs, wSt, wP, wEs, bAn, bOr, wOp, wCd, wIt, pr, prB, wTru, wB, wVar, wC, w1, w2, wL, wTup, wLst, wNew, wNil, wCons, wNot, wAnd, wOr, vNot, vAnd, vOr, wIf, wChain, wRet, wRetN, wIfS, wSeq, wSkip, wAsg, wPar, wTri, wPut, wDrop, wT, wTs, Ts.len, gN, gT, tupL, gNl, gCn, wSl, wSome, wNone, wEmp, wNewd, wNewd1, wCompT, wipeE, wFor, wComp, iR1, iSeq, Bo.o2, Co.o2, Bl.ol, Bt.ol, intD, subD, modD, fdivD, powD, boolD, ltD_int, mul_int, mul_tup, iEn, isND, ↓reduceIte, Bool.false_eq_true, List.length_cons, List.length_nil, Nat.reduceAdd, Nat.zero_add, sz_true, Nat.reduceLeDiff, eq_int, addL, List.cons_append, List.nil_append, ne_eq, reduceCtorEq, not_false_eq_true, not_true_eq_false, tru_bl, ex_cons, ex_two, ex_one, ex_i, ex_ij, ex_bl, ex_env, Bool.bne_false, Bool.bne_true, at3_0, at3_1, at3_2, seqx_tup, seqx_lst, negD, absD, addI, defl, lf1, Lf.d, List.getElem?_cons_zero, List.getElem?_cons_succ, List.set_cons_zero, List.set_cons_succ, Option.some.injEq, exists_eq_left', exists_eq_left, D.int.injEq, D.bl.injEq, D.tup.injEq, D.str.injEq, D.loc.injEq, D.lst.injEq, and_true, true_and, exists_and_left, exists_and_right, decide_eq_true_eq, Bool.not_eq_true', decide_eq_false_iff_not, h1]
    refine hearK_of ok hs.st ?_
    unfold eHr
    simp only [wSs, wSt, wP, wEs, bAn, bOr, wOp, wCd, wIt, pr, prB, wTru, wB, wVar, wC, w1, w2, wL, wTup, wLst, wNew, wNil, wCons, wNot, wAnd, wOr, vNot, vAnd, vOr, wIf, wChain, wRet, wRetN, wIfS, wSeq, wSkip, wAsg, wPar, wTri, wPut, wDrop, wT, wTs, Ts.len, gN, gT, tupL, gNl, gCn, wSl, wSome, wNone, wEmp, wNewd, wNewd1, wCompT, wipeE, wFor, wComp, iR1, iSeq, Bo.o2, Co.o2, Bl.ol, Bt.ol, intD, subD, modD, fdivD, powD, boolD, ltD_int, mul_int, mul_tup, iEn, isND, ↓reduceIte, Bool.false_eq_true, List.length_cons, List.length_nil, Nat.reduceAdd, Nat.zero_add, sz_true, Nat.reduceLeDiff, eq_int, addL, List.cons_append, List.nil_append, ne_eq, reduceCtorEq, not_false_eq_true, not_true_eq_false, tru_bl, ex_cons, ex_two, ex_one, ex_i, ex_ij, ex_bl, ex_env, Bool.bne_false, Bool.bne_true, at3_0, at3_1, at3_2, seqx_tup, seqx_lst, negD, absD, addI, defl, lf1, Lf.d, List.getElem?_cons_zero, List.getElem?_cons_succ, List.set_cons_zero, List.set_cons_succ, Option.some.injEq, exists_eq_left', exists_eq_left, D.int.injEq, D.bl.injEq, D.tup.injEq, D.str.injEq, D.loc.injEq, D.lst.injEq, and_true, true_and, exists_and_left, exists_and_right, decide_eq_true_eq, Bool.not_eq_true', decide_eq_false_iff_not]
    refine hN _ _ (seq_one ?_)
    simp only [wSs, wSt, wP, wEs, bAn, bOr, wOp, wCd, wIt, pr, prB, wTru, wB, wVar, wC, w1, w2, wL, wTup, wLst, wNew, wNil, wCons, wNot, wAnd, wOr, vNot, vAnd, vOr, wIf, wChain, wRet, wRetN, wIfS, wSeq, wSkip, wAsg, wPar, wTri, wPut, wDrop, wT, wTs, Ts.len, gN, gT, tupL, gNl, gCn, wSl, wSome, wNone, wEmp, wNewd, wNewd1, wCompT, wipeE, wFor, wComp, iR1, iSeq, Bo.o2, Co.o2, Bl.ol, Bt.ol, intD, subD, modD, fdivD, powD, boolD, ltD_int, mul_int, mul_tup, iEn, isND, ↓reduceIte, Bool.false_eq_true, List.length_cons, List.length_nil, Nat.reduceAdd, Nat.zero_add, sz_true, Nat.reduceLeDiff, eq_int, addL, List.cons_append, List.nil_append, ne_eq, reduceCtorEq, not_false_eq_true, not_true_eq_false, tru_bl, ex_cons, ex_two, ex_one, ex_i, ex_ij, ex_bl, ex_env, Bool.bne_false, Bool.bne_true, at3_0, at3_1, at3_2, seqx_tup, seqx_lst, negD, absD, addI, defl, lf1, Lf.d, List.getElem?_cons_zero, List.getElem?_cons_succ, List.set_cons_zero, List.set_cons_succ, Option.some.injEq, exists_eq_left', exists_eq_left, D.int.injEq, D.bl.injEq, D.tup.injEq, D.str.injEq, D.loc.injEq, D.lst.injEq, and_true, true_and, exists_and_left, exists_and_right, decide_eq_true_eq, Bool.not_eq_true', decide_eq_false_iff_not, app_iff hf]
    simp only [List.length_cons] at hn
    refine ⟨⟨_, seq_loc hf⟩, by rw [List.length_map]; omega, hM _ _ rfl ⟨ex.put (Nat.le_refl _), (hearR R s n).2, acc ++ [(hearR R s n).1], _, _, rfl, ?_, hear_ok ok hs n, ?_, ?_⟩⟩
    · rw [List.getElem?_set_self hlt]
      simp
    · rw [hw]
      simp [walkR]
    · simp only [List.length_append, List.length_cons, List.length_nil]
      omega
  · exact ⟨(Ext.refl S).new, beg l, [], _, _, rfl, by simp, beg_ok ok l, by simp, by simp⟩
theorem ix_eSd1 {s : Sd3} {S : Store} {Q : QE} : ixD (eSd s) (.int 1) S Q ↔ Q (.int s.2.1) S := by simp [eSd, ix_tup, at3_1]
theorem ix_eSd2 {s : Sd3} {S : Store} {Q : QE} : ixD (eSd s) (.int 2) S Q ↔ Q (eO s.2.2) S := by simp [eSd, ix_tup, at3_2]
theorem ix_eSd0 {s : Sd3} {S : Store} {Q : QE} : ixD (eSd s) (.int 0) S Q ↔ Q (.int s.1) S := by simp [eSd, ix_tup, at3_0]
theorem ix_last {p : Nat} {xs : List D} {x : D} {S : Store} {Q : QE} (h : S[p]? = some (.lst (xs ++ [x]))) (q : Q x S) : ixD (.loc p) (.int (-1)) S Q := by
  refine (ix_loc h).mpr ⟨x, ?_, q⟩
  unfold atI ixN
  rw [if_neg (by omega), List.length_append, List.length_singleton]
  have e : (if 0 ≤ ((xs.length + 1 : Nat) : Int) + -1 then some ((((xs.length + 1 : Nat) : Int) + -1).toNat) else none) = some xs.length := by
    rw [if_pos (by omega)]
    congr 1
    omega
  have e2 : ∀ o : Option Nat, o = some xs.length → (o.bind fun j => (xs ++ [x])[j]?) = some x := by
    rintro _ rfl
    simp
  refine e2 _ ?_
  split
  · congr 1
    omega
  · omega
theorem ne_nil {p : Nat} {xs : List D} {S : Store} {Q : QE} (h : S[p]? = some (.lst xs)) : eqD true (.loc p) (.lst []) S Q ↔ Q (.bl (!xs.isEmpty)) S := by
  constructor
  · rintro (⟨ys, e, q⟩ | ⟨a, b, e, _⟩)
    · have e2 : seqL S (.loc p) = some ys := e
      rw [seq_loc h] at e2
      cases e2
      simpa using q
    · simp [py] at e
  · exact fun q => eq_lst0 (seq_loc h) (by simpa using q)
theorem wp_numbers (Γ : Gm) {dip pick heard : Nat} (h5 : Γ.fn dip = dipC) (h6 : Γ.fn pick = pickC) (h1 : Γ.fn heard = hearK) : ∀ ds S Q, numbersK ds S Q → wSs Γ (b_numbers dip pick heard) (inE n_numbers ds) S { nx := fun _ S' => Q .non S', rt := Q } := by
  rintro _ S Q ⟨p, R, o, m, rfl, ok, m0, m1, hs, q⟩
  have z := szM
  show wSs Γ (b_numbers dip pick heard) [some (.loc p), some (eRc R), some (.int o), some (.int m), none, none, none, none, none] S _
  have hp := hs.lt
  refine seq_gen fun N hN => ?_
  simp only [wSs, wSt, wP, wEs, bAn, bOr, wOp, wCd, wIt, pr, prB, wTru, wB, wVar, wC, w1, w2, wL, wTup, wLst, wNew, wNil, wCons, wNot, wAnd, wOr, vNot, vAnd, vOr, wIf, wChain, wRet, wRetN, wIfS, wSeq, wSkip, wAsg, wPar, wTri, wPut, wDrop, wT, wTs, Ts.len, gN, gT, tupL, gNl, gCn, wSl, wSome, wNone, wEmp, wNewd, wNewd1, wCompT, wipeE, wFor, wComp, iR1, iSeq, Bo.o2, Co.o2, Bl.ol, Bt.ol, intD, subD, modD, fdivD, powD, boolD, ltD_int, mul_int, mul_tup, iEn, isND, ↓reduceIte, Bool.false_eq_true, List.length_cons, List.length_nil, Nat.reduceAdd, Nat.zero_add, sz_true, Nat.reduceLeDiff, eq_int, addL, List.cons_append, List.nil_append, ne_eq, reduceCtorEq, not_false_eq_true, not_true_eq_false, tru_bl, ex_cons, ex_two, ex_one, ex_i, ex_ij, ex_bl, ex_env, Bool.bne_false, Bool.bne_true, at3_0, at3_1, at3_2, seqx_tup, seqx_lst, negD, absD, addI, defl, lf1, Lf.d, List.getElem?_cons_zero, List.getElem?_cons_succ, List.set_cons_zero, List.set_cons_succ, Option.some.injEq, exists_eq_left', exists_eq_left, D.int.injEq, D.bl.injEq, D.tup.injEq, D.str.injEq, D.loc.injEq, D.lst.injEq, and_true, true_and, exists_and_left, exists_and_right, decide_eq_true_eq, Bool.not_eq_true', decide_eq_false_iff_not]
  refine hN _ _ ?_
  clear hN N
  refine seq_gen fun N hN => ?_
  have fin : ∀ a s c d S' (ns : List Int), Dr p S S' → S'[S.length]? = some (.lst (ns.map D.int)) → (ns.length : Int) ≤ m → N [some (.loc p), some (eRc R), some (.int o), some (.int m), a, some (eSd s), some (.loc S.length), c, d] S' := by
    intro a s c d S' ns dr hf hl
    refine hN _ _ (seq_one ?_)
    simp only [wSs, wSt, wP, wEs, bAn, bOr, wOp, wCd, wIt, pr, prB, wTru, wB, wVar, wC, w1, w2, wL, wTup, wLst, wNew, wNil, wCons, wNot, wAnd, wOr, vNot, vAnd, vOr, wIf, wChain, wRet, wRetN, wIfS, wSeq, wSkip, wAsg, wPar, wTri, wPut, wDrop, wT, wTs, Ts.len, gN, gT, tupL, gNl, gCn, wSl, wSome, wNone, wEmp, wNewd, wNewd1, wCompT, wipeE, wFor, wComp, iR1, iSeq, Bo.o2, Co.o2, Bl.ol, Bt.ol, intD, subD, modD, fdivD, powD, boolD, ltD_int, mul_int, mul_tup, iEn, isND, ↓reduceIte, Bool.false_eq_true, List.length_cons, List.length_nil, Nat.reduceAdd, Nat.zero_add, sz_true, Nat.reduceLeDiff, eq_int, addL, List.cons_append, List.nil_append, ne_eq, reduceCtorEq, not_false_eq_true, not_true_eq_false, tru_bl, ex_cons, ex_two, ex_one, ex_i, ex_ij, ex_bl, ex_env, Bool.bne_false, Bool.bne_true, at3_0, at3_1, at3_2, seqx_tup, seqx_lst, negD, absD, addI, defl, lf1, Lf.d, List.getElem?_cons_zero, List.getElem?_cons_succ, List.set_cons_zero, List.set_cons_succ, Option.some.injEq, exists_eq_left', exists_eq_left, D.int.injEq, D.bl.injEq, D.tup.injEq, D.str.injEq, D.loc.injEq, D.lst.injEq, and_true, true_and, exists_and_left, exists_and_right, decide_eq_true_eq, Bool.not_eq_true', decide_eq_false_iff_not, tup_loc hf]
    exact q ns S' hl dr
  clear hN
  refine for_step fun B hB => ?_
  have d0 : Dr p S (S ++ [.lst []]) := (Dr.refl hs).new
  simp only [wSs, wSt, wP, wEs, bAn, bOr, wOp, wCd, wIt, pr, prB, wTru, wB, wVar, wC, w1, w2, wL, wTup, wLst, wNew, wNil, wCons, wNot, wAnd, wOr, vNot, vAnd, vOr, wIf, wChain, wRet, wRetN, wIfS, wSeq, wSkip, wAsg, wPar, wTri, wPut, wDrop, wT, wTs, Ts.len, gN, gT, tupL, gNl, gCn, wSl, wSome, wNone, wEmp, wNewd, wNewd1, wCompT, wipeE, wFor, wComp, iR1, iSeq, Bo.o2, Co.o2, Bl.ol, Bt.ol, intD, subD, modD, fdivD, powD, boolD, ltD_int, mul_int, mul_tup, iEn, isND, ↓reduceIte, Bool.false_eq_true, List.length_cons, List.length_nil, Nat.reduceAdd, Nat.zero_add, sz_true, Nat.reduceLeDiff, eq_int, addL, List.cons_append, List.nil_append, ne_eq, reduceCtorEq, not_false_eq_true, not_true_eq_false, tru_bl, ex_cons, ex_two, ex_one, ex_i, ex_ij, ex_bl, ex_env, Bool.bne_false, Bool.bne_true, at3_0, at3_1, at3_2, seqx_tup, seqx_lst, negD, absD, addI, defl, lf1, Lf.d, List.getElem?_cons_zero, List.getElem?_cons_succ, List.set_cons_zero, List.set_cons_succ, Option.some.injEq, exists_eq_left', exists_eq_left, D.int.injEq, D.bl.injEq, D.tup.injEq, D.str.injEq, D.loc.injEq, D.lst.injEq, and_true, true_and, exists_and_left, exists_and_right, decide_eq_true_eq, Bool.not_eq_true', decide_eq_false_iff_not, h5, dipC_iff]
  refine ⟨by omega, by omega, d0.spr, fun k S1 k0 k1 d1 => ⟨by omega, by omega, ?_⟩⟩
  have f0 : (S ++ [Ob.lst []])[S.length]? = some (.lst []) := by simp
  have f1 : S1[S.length]? = some (.lst []) := (d1.rest _ (by omega) (by simp)).trans f0
  refine forN_of (fun j ρ S' => Dr p S S' ∧ ∃ a s c d, ∃ ns : List Int, ρ = [some (.loc p), some (eRc R), some (.int o), some (.int m), a, some (eSd s), some (.loc S.length), c, d] ∧ S'[S.length]? = some (.lst (ns.map D.int)) ∧ s.Ok R ∧ ns.length = j) ?_ ?_ _ _ ⟨d0.trans d1, _, beg o, _, _, [], rfl, f1, beg_ok ok o, rfl⟩
  · rintro ρ S' ⟨dr, a, s, c, d, ns, rfl, hf, hso, hl⟩
    exact fin _ _ _ _ _ ns dr hf (by omega)
  rintro j ρ S2 M hj ⟨dr, a, s, c, d, ns, rfl, hf, hso, hl⟩ hM
  subst hB
  have go : ∀ (n : Int) (w : Int) S4, Dr p S2 S4 → wSs Γ (.cons (.ex (.app (.var 6) (.var 8))) (.cons (.set (.nm 5) (.ix (.call heard (.cons (.var 1) (.cons (.var 5) (.cons (.var 8) .nil)))) (.int 1))) .nil)) [some (.loc p), some (eRc R), some (.int o), some (.int m), some (.int j), some (eSd s), some (.loc S.length), some (.int w), some (.int n)] S4 { rt := Q, bk := N, nx := M, ct := M } := by
    intro n w S4 d4
    have hlt : S.length < S2.length := by
      rcases Nat.lt_or_ge S.length S2.length with u | u
      · exact u
      · rw [List.getElem?_eq_none u] at hf
        cases hf
    have hf4 : S4[S.length]? = some (.lst (ns.map D.int)) := (d4.rest _ (by omega) hlt).trans hf
    refine seq_gen fun N2 hN2 => ?_
    simp only [wSs, wSt, wP, wEs, bAn, bOr, wOp, wCd, wIt, pr, prB, wTru, wB, wVar, wC, w1, w2, wL, wTup, wLst, wNew, wNil, wCons, wNot, wAnd, wOr, vNot, vAnd, vOr, wIf, wChain, wRet, wRetN, wIfS, wSeq, wSkip, wAsg, wPar, wTri, wPut, wDrop, wT, wTs, Ts.len, gN, gT, tupL, gNl, gCn, wSl, wSome, wNone, wEmp, wNewd, wNewd1, wCompT, wipeE, wFor, wComp, iR1, iSeq, Bo.o2, Co.o2, Bl.ol, Bt.ol, intD, subD, modD, fdivD, powD, boolD, ltD_int, mul_int, mul_tup, iEn, isND, ↓reduceIte, Bool.false_eq_true, List.length_cons, List.length_nil, Nat.reduceAdd, Nat.zero_add, sz_true, Nat.reduceLeDiff, eq_int, addL, List.cons_append, List.nil_append, ne_eq, reduceCtorEq, not_false_eq_true, not_true_eq_false, tru_bl, ex_cons, ex_two, ex_one, ex_i, ex_ij, ex_bl, ex_env, Bool.bne_false, Bool.bne_true, at3_0, at3_1, at3_2, seqx_tup, seqx_lst, negD, absD, addI, defl, lf1, Lf.d, List.getElem?_cons_zero, List.getElem?_cons_succ, List.set_cons_zero, List.set_cons_succ, Option.some.injEq, exists_eq_left', exists_eq_left, D.int.injEq, D.bl.injEq, D.tup.injEq, D.str.injEq, D.loc.injEq, D.lst.injEq, and_true, true_and, exists_and_left, exists_and_right, decide_eq_true_eq, Bool.not_eq_true', decide_eq_false_iff_not, app_iff hf4]
    refine ⟨⟨_, seq_loc hf4⟩, by rw [List.length_map]; omega, hN2 _ _ (seq_one ?_)⟩
    simp only [wSs, wSt, wP, wEs, bAn, bOr, wOp, wCd, wIt, pr, prB, wTru, wB, wVar, wC, w1, w2, wL, wTup, wLst, wNew, wNil, wCons, wNot, wAnd, wOr, vNot, vAnd, vOr, wIf, wChain, wRet, wRetN, wIfS, wSeq, wSkip, wAsg, wPar, wTri, wPut, wDrop, wT, wTs, Ts.len, gN, gT, tupL, gNl, gCn, wSl, wSome, wNone, wEmp, wNewd, wNewd1, wCompT, wipeE, wFor, wComp, iR1, iSeq, Bo.o2, Co.o2, Bl.ol, Bt.ol, intD, subD, modD, fdivD, powD, boolD, ltD_int, mul_int, mul_tup, iEn, isND, ↓reduceIte, Bool.false_eq_true, List.length_cons, List.length_nil, Nat.reduceAdd, Nat.zero_add, sz_true, Nat.reduceLeDiff, eq_int, addL, List.cons_append, List.nil_append, ne_eq, reduceCtorEq, not_false_eq_true, not_true_eq_false, tru_bl, ex_cons, ex_two, ex_one, ex_i, ex_ij, ex_bl, ex_env, Bool.bne_false, Bool.bne_true, at3_0, at3_1, at3_2, seqx_tup, seqx_lst, negD, absD, addI, defl, lf1, Lf.d, List.getElem?_cons_zero, List.getElem?_cons_succ, List.set_cons_zero, List.set_cons_succ, Option.some.injEq, exists_eq_left', exists_eq_left, D.int.injEq, D.bl.injEq, D.tup.injEq, D.str.injEq, D.loc.injEq, D.lst.injEq, and_true, true_and, exists_and_left, exists_and_right, decide_eq_true_eq, Bool.not_eq_true', decide_eq_false_iff_not, h1]
    refine hearK_of ok hso.st ?_
    rw [ix_eHr1]
    refine hM _ _ rfl ⟨(dr.trans d4).put (by omega) (Nat.le_refl _), _, (hearR R s n).2, _, _, ns ++ [n], rfl, ?_, hear_ok ok hso n, by simp [hl]⟩
    rw [List.getElem?_set_self (Nat.lt_of_lt_of_le hlt d4.len)]
    simp
  refine seq_gen fun N2 hN2 => ?_
  simp only [wSs, wSt, wP, wEs, bAn, bOr, wOp, wCd, wIt, pr, prB, wTru, wB, wVar, wC, w1, w2, wL, wTup, wLst, wNew, wNil, wCons, wNot, wAnd, wOr, vNot, vAnd, vOr, wIf, wChain, wRet, wRetN, wIfS, wSeq, wSkip, wAsg, wPar, wTri, wPut, wDrop, wT, wTs, Ts.len, gN, gT, tupL, gNl, gCn, wSl, wSome, wNone, wEmp, wNewd, wNewd1, wCompT, wipeE, wFor, wComp, iR1, iSeq, Bo.o2, Co.o2, Bl.ol, Bt.ol, intD, subD, modD, fdivD, powD, boolD, ltD_int, mul_int, mul_tup, iEn, isND, ↓reduceIte, Bool.false_eq_true, List.length_cons, List.length_nil, Nat.reduceAdd, Nat.zero_add, sz_true, Nat.reduceLeDiff, eq_int, addL, List.cons_append, List.nil_append, ne_eq, reduceCtorEq, not_false_eq_true, not_true_eq_false, tru_bl, ex_cons, ex_two, ex_one, ex_i, ex_ij, ex_bl, ex_env, Bool.bne_false, Bool.bne_true, at3_0, at3_1, at3_2, seqx_tup, seqx_lst, negD, absD, addI, defl, lf1, Lf.d, List.getElem?_cons_zero, List.getElem?_cons_succ, List.set_cons_zero, List.set_cons_succ, Option.some.injEq, exists_eq_left', exists_eq_left, D.int.injEq, D.bl.injEq, D.tup.injEq, D.str.injEq, D.loc.injEq, D.lst.injEq, and_true, true_and, exists_and_left, exists_and_right, decide_eq_true_eq, Bool.not_eq_true', decide_eq_false_iff_not, h5, dipC_iff]
  refine ⟨by omega, by omega, dr.spr, fun w S3 wa wb d3 => hN2 _ _ ?_⟩
  clear hN2 N2
  refine seq_gen fun N2 hN2 => ?_
  have go2 : ∀ (n : Int) S4, Dr p S2 S4 → N2 [some (.loc p), some (eRc R), some (.int o), some (.int m), some (.int j), some (eSd s), some (.loc S.length), some (.int w), some (.int n)] S4 := fun n S4 d4 => hN2 _ _ (go n w S4 d4)
  clear hN2
  have hlt : S.length < S2.length := by
    rcases Nat.lt_or_ge S.length S2.length with u | u
    · exact u
    · rw [List.getElem?_eq_none u] at hf
      cases hf
  have hf3 : S3[S.length]? = some (.lst (ns.map D.int)) := (d3.rest _ (by omega) hlt).trans hf
  have c20 : CPow 10 20 := ⟨by omega, by omega, by decide⟩
  simp only [wSs, wSt, wP, wEs, bAn, bOr, wOp, wCd, wIt, pr, prB, wTru, wB, wVar, wC, w1, w2, wL, wTup, wLst, wNew, wNil, wCons, wNot, wAnd, wOr, vNot, vAnd, vOr, wIf, wChain, wRet, wRetN, wIfS, wSeq, wSkip, wAsg, wPar, wTri, wPut, wDrop, wT, wTs, Ts.len, gN, gT, tupL, gNl, gCn, wSl, wSome, wNone, wEmp, wNewd, wNewd1, wCompT, wipeE, wFor, wComp, iR1, iSeq, Bo.o2, Co.o2, Bl.ol, Bt.ol, intD, subD, modD, fdivD, powD, boolD, ltD_int, mul_int, mul_tup, iEn, isND, ↓reduceIte, Bool.false_eq_true, List.length_cons, List.length_nil, Nat.reduceAdd, Nat.zero_add, sz_true, Nat.reduceLeDiff, eq_int, addL, List.cons_append, List.nil_append, ne_eq, reduceCtorEq, not_false_eq_true, not_true_eq_false, tru_bl, ex_cons, ex_two, ex_one, ex_i, ex_ij, ex_bl, ex_env, Bool.bne_false, Bool.bne_true, at3_0, at3_1, at3_2, seqx_tup, seqx_lst, negD, absD, addI, defl, lf1, Lf.d, List.getElem?_cons_zero, List.getElem?_cons_succ, List.set_cons_zero, List.set_cons_succ, Option.some.injEq, exists_eq_left', exists_eq_left, D.int.injEq, D.bl.injEq, D.tup.injEq, D.str.injEq, D.loc.injEq, D.lst.injEq, and_true, true_and, exists_and_left, exists_and_right, decide_eq_true_eq, Bool.not_eq_true', decide_eq_false_iff_not, h5, dipC_iff, ix_eSd1, ix_eSd2, isNon_eO, h6, pickC_iff, c20, ne_nil hf3]
  have late : if w < 6 then
        (0 : Int) < 15 ∧ (15 : Int) < 1073741824 ∧ Spr S3 p ∧ ∀ k S', 0 ≤ k → k < 15 → Dr p S3 S' → N2 [some (.loc p), some (eRc R), some (.int o), some (.int m), some (.int j), some (eSd s), some (.loc S.length), some (.int w), some (.int (s.2.1 + (k - 7)))] S'
      else (0 : Int) < 7 ∧ (7 : Int) < 1073741824 ∧ Spr S3 p ∧ ∀ k S', 0 ≤ k → k < 7 → Dr p S3 S' → N2 [some (.loc p), some (eRc R), some (.int o), some (.int m), some (.int j), some (eSd s), some (.loc S.length), some (.int w), some (.int (s.2.1 + (1 + k)))] S' := by
    split
    · exact ⟨by omega, by omega, d3.spr, fun k S4 _ _ d4 => go2 _ _ (d3.trans d4)⟩
    · exact ⟨by omega, by omega, d3.spr, fun k S4 _ _ d4 => go2 _ _ (d3.trans d4)⟩
  have kept : s.2.2.isNone = false → (0 : Int) < 5 ∧ (5 : Int) < 1073741824 ∧ Spr S3 p ∧ ∀ (k : Int) (S' : Store), 0 ≤ k → k < 5 → Dr p S3 S' → addD (eO s.2.2) (.int k) S' fun x S1 => ∃ i, x = D.int i ∧ N2 [some (.loc p), some (eRc R), some (.int o), some (.int m), some (.int j), some (eSd s), some (.loc S.length), some (.int w), some (.int (i - 1))] S1 := by
    intro hk
    cases hg : s.2.2 with
    | none =>
      rw [hg] at hk
      cases hk
    | some g => exact ⟨by omega, by omega, d3.spr, fun k S4 _ _ d4 => ⟨_, rfl, go2 _ _ (d3.trans d4)⟩⟩
  split
  · refine ⟨by omega, d3.spr, fun dd S4 hd d4 => ?_⟩
    obtain ⟨i, rfl⟩ : ∃ i, dd = .int i := by
      simp only [List.mem_cons, List.not_mem_nil, or_false] at hd
      rcases hd with rfl | rfl | rfl | rfl | rfl | rfl | rfl | rfl <;> exact ⟨_, rfl⟩
    exact go2 _ _ (d3.trans d4)
  · split
    · split
      · rename_i hne
        rcases List.eq_nil_or_concat ns with rfl | ⟨ms, y, rfl⟩
        · cases hne
        · exact ix_last (xs := ms.map D.int) (x := .int y) (by rw [hf3]; simp) (go2 _ _ d3)
      · split
        · split
          · rename_i hk
            exact kept hk
          · exact late
        · exact late
    · split
      · split
        · rename_i hk
          exact kept hk
        · exact late
      · exact late
theorem cut_take {xs : List D} {c : Int} (h : 0 ≤ c) : cutD xs none (some c) = xs.take c.toNat := by
  unfold cutD HT.sIx
  simp only [if_neg (show ¬ c < 0 by omega), List.drop_zero, Nat.sub_zero]
  rcases Nat.le_total c.toNat xs.length with h1 | h1
  · rw [Nat.min_eq_left h1]
  · rw [Nat.min_eq_right h1, List.take_length, List.take_of_length_le h1]
theorem cut_drop {xs : List D} {c : Int} (h : 0 ≤ c) : cutD xs (some c) none = xs.drop c.toNat := by
  unfold cutD HT.sIx
  simp only [if_neg (show ¬ c < 0 by omega)]
  rcases Nat.le_total c.toNat xs.length with h1 | h1
  · rw [Nat.min_eq_left h1, ← List.length_drop, List.take_length]
  · rw [Nat.min_eq_right h1, Nat.sub_self, List.take_zero, List.drop_of_length_le h1]
theorem sl_eIs_to {ns : List Int} {c : Int} (h : 0 ≤ c) {S : Store} {Q : QE} : slD (eIs ns) none (some c) S Q ↔ Q (eIs (ns.take c.toNat)) S := by
  show Q (.tup (cutD (ns.map D.int) none (some c))) S ↔ _
  rw [cut_take h, ← List.map_take]
  rfl
theorem sl_eIs_from {ns : List Int} {c : Int} (h : 0 ≤ c) {S : Store} {Q : QE} : slD (eIs ns) (some c) none S Q ↔ Q (eIs (ns.drop c.toNat)) S := by
  show Q (.tup (cutD (ns.map D.int) (some c) none)) S ↔ _
  rw [cut_drop h, ← List.map_drop]
  rfl
theorem mul_eIs {ns : List Int} {k : Int} {S : Store} {Q : QE} : mulT (eIs ns) (.int k) S Q ↔ (0 ≤ k ∧ k ≤ 1000 ∧ ns.length ≤ 1000 ∧ Q (eIs (List.replicate k.toNat ns).flatten) S) := by
  unfold eIs
  rw [mul_tup, List.length_map, List.map_flatten, List.map_replicate]
theorem len_eIs {ns : List Int} {S : Store} {Q : QE} : lenD [eIs ns] S Q ↔ Q (.int ns.length) S := by
  simp [eIs, len_tup]
theorem al_eBs {n : Nat} {bs : List Bool} (h : bs.length ≤ 5000) : Al (n + 1) (eBs bs) := al_tup (by simpa using h) fun x hx => by
  rw [List.mem_map] at hx
  obtain ⟨b, _, rfl⟩ := hx
  exact al_bl
theorem al_eWk {n : Nat} {p : List Bool × Sd3} (h : p.1.length ≤ 5000) : Al (n + 2) (eWk p) := al_tup (by simp) (al_cons (al_eBs h) (al_cons al_eSd al_nil))
theorem nil_ok : Rc.Ok 100 100 [[]] := ⟨by simp, by simp, fun st h => by simp at h; subst h; simp, fun st h w hw => by simp at h; subst h; simp at hw⟩
end Pv

namespace Pv
open PySem L2 PySem.Spec PyProof.Rows
def isIntC : OL := fun ds S Q => ∃ d, ds = [d] ∧ d.nl = true ∧ Q (.bl d.isI) S
theorem isIntC_iff {d : D} {S : Store} {Q : QE} : isIntC [d] S Q ↔ (d.nl = true ∧ Q (.bl d.isI) S) := by
  simp [isIntC]
theorem wp_is_int (Γ : Gm) : ∀ ds S Q, isIntC ds S Q → wSs Γ b_p_is_integer (inE n_p_is_integer ds) S { nx := fun _ S' => Q .non S', rt := Q } := by
  rintro _ S Q ⟨d, rfl, hn, q⟩
  show wSs Γ b_p_is_integer [some d] S _
  simp only [wSs, wSt, wP, wEs, bAn, bOr, wOp, wCd, wIt, pr, prB, wTru, wB, wVar, wC, w1, w2, wL, wTup, wLst, wNew, wNil, wCons, wNot, wAnd, wOr, vNot, vAnd, vOr, wIf, wChain, wRet, wRetN, wIfS, wSeq, wSkip, wAsg, wPar, wTri, wPut, wDrop, wT, wTs, Ts.len, gN, gT, tupL, gNl, gCn, wSl, wSome, wNone, wEmp, wNewd, wNewd1, wCompT, wipeE, wFor, wComp, iR1, iSeq, Bo.o2, Co.o2, Bl.ol, Bt.ol, intD, subD, modD, fdivD, powD, boolD, ltD_int, mul_int, mul_tup, iEn, isND, ↓reduceIte, Bool.false_eq_true, List.length_cons, List.length_nil, Nat.reduceAdd, Nat.zero_add, sz_true, Nat.reduceLeDiff, eq_int, addL, List.cons_append, List.nil_append, ne_eq, reduceCtorEq, not_false_eq_true, not_true_eq_false, tru_bl, ex_cons, ex_two, ex_one, ex_i, ex_ij, ex_bl, ex_env, Bool.bne_false, Bool.bne_true, at3_0, at3_1, at3_2, seqx_tup, seqx_lst, negD, absD, addI, defl, lf1, Lf.d, List.getElem?_cons_zero, List.getElem?_cons_succ, List.set_cons_zero, List.set_cons_succ, Option.some.injEq, exists_eq_left', exists_eq_left, D.int.injEq, D.bl.injEq, D.tup.injEq, D.str.injEq, D.loc.injEq, D.lst.injEq, and_true, true_and, exists_and_left, exists_and_right, decide_eq_true_eq, Bool.not_eq_true', decide_eq_false_iff_not, b_p_is_integer, isi_int hn, isi_bool hn]
  cases d <;> simp [D.ty, isiB, D.isI] at * <;> exact q
def idxB (d : D) (n : Int) : Bool := match d with
  | .int i => decide (0 ≤ i) && decide (i < n)
  | _ => false
def isIdxC : OL := fun ds S Q => ∃ d n, ds = [d, .int n] ∧ d.nl = true ∧ Q (.bl (idxB d n)) S
theorem isIdxC_iff {d : D} {n : Int} {S : Store} {Q : QE} : isIdxC [d, .int n] S Q ↔ (d.nl = true ∧ Q (.bl (idxB d n)) S) := by
  exact ⟨fun ⟨_, _, e, h⟩ => by cases e; exact h, fun h => ⟨_, _, rfl, h⟩⟩
theorem wp_is_index (Γ : Gm) {is_int : Nat} (h0 : Γ.fn is_int = isIntC) : ∀ ds S Q, isIdxC ds S Q → wSs Γ (b_p_is_index is_int) (inE n_p_is_index ds) S { nx := fun _ S' => Q .non S', rt := Q } := by
  rintro _ S Q ⟨d, n, rfl, hn, q⟩
  show wSs Γ (b_p_is_index is_int) [some d, some (.int n)] S _
  simp only [wSs, wSt, wP, wEs, bAn, bOr, wOp, wCd, wIt, pr, prB, wTru, wB, wVar, wC, w1, w2, wL, wTup, wLst, wNew, wNil, wCons, wNot, wAnd, wOr, vNot, vAnd, vOr, wIf, wChain, wRet, wRetN, wIfS, wSeq, wSkip, wAsg, wPar, wTri, wPut, wDrop, wT, wTs, Ts.len, gN, gT, tupL, gNl, gCn, wSl, wSome, wNone, wEmp, wNewd, wNewd1, wCompT, wipeE, wFor, wComp, iR1, iSeq, Bo.o2, Co.o2, Bl.ol, Bt.ol, intD, subD, modD, fdivD, powD, boolD, ltD_int, mul_int, mul_tup, iEn, isND, ↓reduceIte, Bool.false_eq_true, List.length_cons, List.length_nil, Nat.reduceAdd, Nat.zero_add, sz_true, Nat.reduceLeDiff, eq_int, addL, List.cons_append, List.nil_append, ne_eq, reduceCtorEq, not_false_eq_true, not_true_eq_false, tru_bl, ex_cons, ex_two, ex_one, ex_i, ex_ij, ex_bl, ex_env, Bool.bne_false, Bool.bne_true, at3_0, at3_1, at3_2, seqx_tup, seqx_lst, negD, absD, addI, defl, lf1, Lf.d, List.getElem?_cons_zero, List.getElem?_cons_succ, List.set_cons_zero, List.set_cons_succ, Option.some.injEq, exists_eq_left', exists_eq_left, D.int.injEq, D.bl.injEq, D.tup.injEq, D.str.injEq, D.loc.injEq, D.lst.injEq, and_true, true_and, exists_and_left, exists_and_right, decide_eq_true_eq, Bool.not_eq_true', decide_eq_false_iff_not, b_p_is_index, h0, isIntC_iff, hn]
  cases d <;> simp [D.isI, idxB] at * <;> try exact q
  rename_i i
  by_cases h : 0 ≤ i <;> simp [h, ltD_int] at * <;> exact q
def tupB (d : D) (a b : Int) : Bool := match d with
  | .tup xs => decide (a ≤ xs.length) && decide ((xs.length : Int) ≤ b)
  | _ => false
def isTupC : OL := fun ds S Q => ∃ d a b, ds = [d, .int a, .int b] ∧ d.nl = true ∧ Q (.bl (tupB d a b)) S
theorem isTupC_iff {d : D} {a b : Int} {S : Store} {Q : QE} : isTupC [d, .int a, .int b] S Q ↔ (d.nl = true ∧ Q (.bl (tupB d a b)) S) := by
  exact ⟨fun ⟨_, _, _, e, h⟩ => by cases e; exact h, fun h => ⟨_, _, _, rfl, h⟩⟩
theorem wp_is_tuple (Γ : Gm) : ∀ ds S Q, isTupC ds S Q → wSs Γ b_p_is_tuple (inE n_p_is_tuple ds) S { nx := fun _ S' => Q .non S', rt := Q } := by
  rintro _ S Q ⟨d, a, b, rfl, hn, q⟩
  show wSs Γ b_p_is_tuple [some d, some (.int a), some (.int b)] S _
  simp only [wSs, wSt, wP, wEs, bAn, bOr, wOp, wCd, wIt, pr, prB, wTru, wB, wVar, wC, w1, w2, wL, wTup, wLst, wNew, wNil, wCons, wNot, wAnd, wOr, vNot, vAnd, vOr, wIf, wChain, wRet, wRetN, wIfS, wSeq, wSkip, wAsg, wPar, wTri, wPut, wDrop, wT, wTs, Ts.len, gN, gT, tupL, gNl, gCn, wSl, wSome, wNone, wEmp, wNewd, wNewd1, wCompT, wipeE, wFor, wComp, iR1, iSeq, Bo.o2, Co.o2, Bl.ol, Bt.ol, intD, subD, modD, fdivD, powD, boolD, ltD_int, mul_int, mul_tup, iEn, isND, ↓reduceIte, Bool.false_eq_true, List.length_cons, List.length_nil, Nat.reduceAdd, Nat.zero_add, sz_true, Nat.reduceLeDiff, eq_int, addL, List.cons_append, List.nil_append, ne_eq, reduceCtorEq, not_false_eq_true, not_true_eq_false, tru_bl, ex_cons, ex_two, ex_one, ex_i, ex_ij, ex_bl, ex_env, Bool.bne_false, Bool.bne_true, at3_0, at3_1, at3_2, seqx_tup, seqx_lst, negD, absD, addI, defl, lf1, Lf.d, List.getElem?_cons_zero, List.getElem?_cons_succ, List.set_cons_zero, List.set_cons_succ, Option.some.injEq, exists_eq_left', exists_eq_left, D.int.injEq, D.bl.injEq, D.tup.injEq, D.str.injEq, D.loc.injEq, D.lst.injEq, and_true, true_and, exists_and_left, exists_and_right, decide_eq_true_eq, Bool.not_eq_true', decide_eq_false_iff_not, b_p_is_tuple, isi_tuple hn]
  cases d <;> simp [D.isT, tupB, len_tup] at * <;> try exact q
  rename_i xs
  by_cases h : a ≤ xs.length <;> simp [h] at * <;> exact q
def near6 (a b : D) : Bool := match a, b with
  | .non, _ => true
  | .int i, .int j => decide (-6 ≤ i - j) && decide (i - j ≤ 6)
  | _, _ => false
def standB (n : Int) (d : D) : Bool := match d with
  | .tup [a, b, c] => idxB a n && b.isI && near6 c b
  | _ => false
def isStC : OL := fun ds S Q => ∃ rs d, ds = [.tup rs, d] ∧ d.nl = true ∧ Q (.bl (standB rs.length d)) S
theorem isStC_iff {rs : List D} {d : D} {S : Store} {Q : QE} : isStC [.tup rs, d] S Q ↔ (d.nl = true ∧ Q (.bl (standB rs.length d)) S) := by
  exact ⟨fun ⟨_, _, e, h⟩ => by cases e; exact h, fun h => ⟨_, _, rfl, h⟩⟩
theorem tup3 {d : D} (h : tupB d 3 3 = true) : ∃ a b c, d = .tup [a, b, c] := by
  cases d with
  | tup xs =>
    simp [tupB] at h
    match xs, h with
    | [], h => simp at h
    | [_], h => simp at h
    | [_, _], h => simp at h
    | [a, b, c], h => exact ⟨a, b, c, rfl⟩
    | _ :: _ :: _ :: _ :: _, h => simp at h; omega
  | _ => simp [tupB] at h
theorem wp_is_stand_p (Γ : Gm) {i0 i1 i2 g0 : Nat} (h0 : Γ.fn i0 = isIntC) (h1 : Γ.fn i1 = isIdxC) (h2 : Γ.fn i2 = isTupC) (hg : Γ.gl g0 = .int 6) : ∀ ds S Q, isStC ds S Q → wSs Γ (b_p_is_stand i0 i1 i2 g0) (inE n_p_is_stand ds) S { nx := fun _ S' => Q .non S', rt := Q } := by
  rintro _ S Q ⟨rs, d, rfl, hn, q⟩
  by_cases h : tupB d 3 3 = true
  · obtain ⟨a, b, c, rfl⟩ := tup3 h
    show wSs Γ (b_p_is_stand i0 i1 i2 g0) [some (.tup rs), some (.tup [a, b, c]), none, none, none] S _
    have e : ∀ x ∈ [a, b, c], x.nl = true := nl_tup.mp hn
    have ea := e a (by simp)
    have eb := e b (by simp)
    have ec := e c (by simp)
    simp only [wSs, wSt, wP, wEs, bAn, bOr, wOp, wCd, wIt, pr, prB, wTru, wB, wVar, wC, w1, w2, wL, wTup, wLst, wNew, wNil, wCons, wNot, wAnd, wOr, vNot, vAnd, vOr, wIf, wChain, wRet, wRetN, wIfS, wSeq, wSkip, wAsg, wPar, wTri, wPut, wDrop, wT, wTs, Ts.len, gN, gT, tupL, gNl, gCn, wSl, wSome, wNone, wEmp, wNewd, wNewd1, wCompT, wipeE, wFor, wComp, iR1, iSeq, Bo.o2, Co.o2, Bl.ol, Bt.ol, intD, subD, modD, fdivD, powD, boolD, ltD_int, mul_int, mul_tup, iEn, isND, ↓reduceIte, Bool.false_eq_true, List.length_cons, List.length_nil, Nat.reduceAdd, Nat.zero_add, sz_true, Nat.reduceLeDiff, eq_int, addL, List.cons_append, List.nil_append, ne_eq, reduceCtorEq, not_false_eq_true, not_true_eq_false, tru_bl, ex_cons, ex_two, ex_one, ex_i, ex_ij, ex_bl, ex_env, Bool.bne_false, Bool.bne_true, at3_0, at3_1, at3_2, seqx_tup, seqx_lst, negD, absD, addI, defl, lf1, Lf.d, List.getElem?_cons_zero, List.getElem?_cons_succ, List.set_cons_zero, List.set_cons_succ, Option.some.injEq, exists_eq_left', exists_eq_left, D.int.injEq, D.bl.injEq, D.tup.injEq, D.str.injEq, D.loc.injEq, D.lst.injEq, and_true, true_and, exists_and_left, exists_and_right, decide_eq_true_eq, Bool.not_eq_true', decide_eq_false_iff_not, b_p_is_stand, h0, h1, h2, hg, isIntC_iff, isIdxC_iff, isTupC_iff, hn, h, ea, eb, ec, len_tup]
    simp only [standB] at q
    cases i1 : idxB a rs.length
    · rw [i1] at q
      simpa using q
    · rw [i1] at q
      cases i2 : b.isI
      · rw [i2] at q
        simpa using q
      · rw [i2] at q
        cases b <;> simp [D.isI] at i2
        rename_i j
        cases c <;> simp [near6, isNon, D.isI] at * <;> try exact q
        rename_i i
        have e2 : decide ((if i - j < 0 then -(i - j) else i - j) ≤ 6) = (decide (-6 ≤ i - j) && decide (i - j ≤ 6)) := by
          rw [Bool.eq_iff_iff, Bool.and_eq_true, decide_eq_true_eq, decide_eq_true_eq, decide_eq_true_eq]
          split <;> omega
        first
          | (rw [← e2] at q; exact q)
          | (rw [← e2] at q; simpa using q)
          | trace_state
  · have e : standB rs.length d = false := by
      unfold standB
      split
      · rename_i a b c
        exact absurd (by simp [tupB]) h
      · rfl
    rw [e] at q
    have h' : tupB d 3 3 = false := by simpa using h
    show wSs Γ (b_p_is_stand i0 i1 i2 g0) [some (.tup rs), some d, none, none, none] S _
    simp only [wSs, wSt, wP, wEs, bAn, bOr, wOp, wCd, wIt, pr, prB, wTru, wB, wVar, wC, w1, w2, wL, wTup, wLst, wNew, wNil, wCons, wNot, wAnd, wOr, vNot, vAnd, vOr, wIf, wChain, wRet, wRetN, wIfS, wSeq, wSkip, wAsg, wPar, wTri, wPut, wDrop, wT, wTs, Ts.len, gN, gT, tupL, gNl, gCn, wSl, wSome, wNone, wEmp, wNewd, wNewd1, wCompT, wipeE, wFor, wComp, iR1, iSeq, Bo.o2, Co.o2, Bl.ol, Bt.ol, intD, subD, modD, fdivD, powD, boolD, ltD_int, mul_int, mul_tup, iEn, isND, ↓reduceIte, Bool.false_eq_true, List.length_cons, List.length_nil, Nat.reduceAdd, Nat.zero_add, sz_true, Nat.reduceLeDiff, eq_int, addL, List.cons_append, List.nil_append, ne_eq, reduceCtorEq, not_false_eq_true, not_true_eq_false, tru_bl, ex_cons, ex_two, ex_one, ex_i, ex_ij, ex_bl, ex_env, Bool.bne_false, Bool.bne_true, at3_0, at3_1, at3_2, seqx_tup, seqx_lst, negD, absD, addI, defl, lf1, Lf.d, List.getElem?_cons_zero, List.getElem?_cons_succ, List.set_cons_zero, List.set_cons_succ, Option.some.injEq, exists_eq_left', exists_eq_left, D.int.injEq, D.bl.injEq, D.tup.injEq, D.str.injEq, D.loc.injEq, D.lst.injEq, and_true, true_and, exists_and_left, exists_and_right, decide_eq_true_eq, Bool.not_eq_true', decide_eq_false_iff_not, b_p_is_stand, h0, h1, h2, hg, isIntC_iff, isIdxC_iff, isTupC_iff, hn, h']
    simpa using q
def mv (s : Sd3) (b : Int) : Sd3 := (s.1, s.2.1 + b, s.2.2.map (· + b))
def movedK : OL := fun ds S Q => ∃ s b, ds = [eSd s, .int b] ∧ Q (eSd (mv s b)) S
theorem movedK_of {s : Sd3} {b : Int} {S : Store} {Q : QE} (h : Q (eSd (mv s b)) S) : movedK [eSd s, .int b] S Q := ⟨_, _, rfl, h⟩
theorem wp_moved (Γ : Gm) : ∀ ds S Q, movedK ds S Q → wSs Γ b_moved (inE n_moved ds) S { nx := fun _ S' => Q .non S', rt := Q } := by
  rintro _ S Q ⟨⟨s, l, k⟩, b, rfl, q⟩
  show wSs Γ b_moved [some (eSd (s, l, k)), some (.int b)] S _
  cases k <;> simp only [wSs, wSt, wP, wEs, bAn, bOr, wOp, wCd, wIt, pr, prB, wTru, wB, wVar, wC, w1, w2, wL, wTup, wLst, wNew, wNil, wCons, wNot, wAnd, wOr, vNot, vAnd, vOr, wIf, wChain, wRet, wRetN, wIfS, wSeq, wSkip, wAsg, wPar, wTri, wPut, wDrop, wT, wTs, Ts.len, gN, gT, tupL, gNl, gCn, wSl, wSome, wNone, wEmp, wNewd, wNewd1, wCompT, wipeE, wFor, wComp, iR1, iSeq, Bo.o2, Co.o2, Bl.ol, Bt.ol, intD, subD, modD, fdivD, powD, boolD, ltD_int, mul_int, mul_tup, iEn, isND, ↓reduceIte, Bool.false_eq_true, List.length_cons, List.length_nil, Nat.reduceAdd, Nat.zero_add, sz_true, Nat.reduceLeDiff, eq_int, addL, List.cons_append, List.nil_append, ne_eq, reduceCtorEq, not_false_eq_true, not_true_eq_false, tru_bl, ex_cons, ex_two, ex_one, ex_i, ex_ij, ex_bl, ex_env, Bool.bne_false, Bool.bne_true, at3_0, at3_1, at3_2, seqx_tup, seqx_lst, negD, absD, addI, defl, lf1, Lf.d, List.getElem?_cons_zero, List.getElem?_cons_succ, List.set_cons_zero, List.set_cons_succ, Option.some.injEq, exists_eq_left', exists_eq_left, D.int.injEq, D.bl.injEq, D.tup.injEq, D.str.injEq, D.loc.injEq, D.lst.injEq, and_true, true_and, exists_and_left, exists_and_right, decide_eq_true_eq, Bool.not_eq_true', decide_eq_false_iff_not, b_moved, eSd, eO, isNon, ix_tup] <;> exact q
theorem rest_mv (s : Sd3) (b : Int) : restOf (mv s b) = restOf s := by
  obtain ⟨s, l, k⟩ := s
  cases k with
  | none => rfl
  | some k =>
    show (s, some (k + b - (l + b))) = (s, some (k - l))
    congr 2
    omega
theorem stand_mv (r : Rs) (l b : Int) : standAt r (l + b) = mv (standAt r l) b := by
  obtain ⟨s, g⟩ := r
  cases g with
  | none => rfl
  | some g =>
    show (s, l + b, some (l + b + g)) = (s, l + b, some (l + g + b))
    congr 3
    omega
/-- a receiver hears moved numbers as it hears them -/
theorem hear_mv (R : Rc) (s : Sd3) (n b : Int) : hearR R (mv s b) (n + b) = ((hearR R s n).1, mv (hearR R s n).2 b) := by
  have e : n + b - (mv s b).2.1 = n - s.2.1 := by
    show n + b - (s.2.1 + b) = _
    omega
  unfold hearR
  simp only [rest_mv, e]
  congr 1
  rw [← stand_mv]
  congr 1
  split
  · rfl
  · rfl
theorem walk_mv (R : Rc) (b : Int) : ∀ (s : Sd3) (ns : List Int), walkR R (mv s b) (ns.map (· + b)) = ((walkR R s ns).1, mv (walkR R s ns).2 b)
  | s, [] => rfl
  | s, n :: ns => by
    rw [List.map_cons]
    unfold walkR
    rw [hear_mv]
    simp only
    rw [walk_mv R b _ ns]
/-- a comprehension whose items are worth F of what is walked -/
theorem compL_map {j : Nat} {te : WE} {src : Store → Option (List D)} {all : List D} {ρ : Env} {Q : QA} {S : Store} (F : D → D) (hs : src S = some all) : ∀ (xs : List D) (acc : List D), (∀ x ∈ xs, ∀ N : QE, N (F x) S → te (ρ.set j (some x)) S N) → Q (acc ++ xs.map F) S → compL j (fun _ S Q => Q true S) te src all ρ xs S acc Q
  | [], acc, _, q => by
    rw [List.map_nil, List.append_nil] at q
    exact q
  | x :: xs, acc, h, q => by
    unfold compL
    show if true = true then _ else _
    rw [if_pos rfl]
    refine h x List.mem_cons_self _ ⟨hs, compL_map F hs xs (acc ++ [F x]) (fun y hy => h y (List.mem_cons_of_mem _ hy)) ?_⟩
    rw [List.map_cons] at q
    simpa using q
theorem standB_eSd {R : Rc} {s : Sd3} (h : s.Ok R) : standB R.length (eSd s) = true := by
  obtain ⟨st, l, k⟩ := s
  have h1 : st < R.length := h.st
  have h2 := h.gp
  unfold standB eSd idxB
  cases k with
  | none => simp [eO, D.isI, near6, h1]
  | some k =>
    have := h2 (k - l) rfl
    simp [eO, D.isI, near6, h1, this]
theorem nl_eO (o : Option Int) : (eO o).nl = true := by cases o <;> rfl
theorem nl_eSd (s : Sd3) : (eSd s).nl = true := nl_tup.mpr fun x hx => by
  simp only [List.mem_cons, List.not_mem_nil, or_false] at hx
  rcases hx with rfl | rfl | rfl
  · rfl
  · rfl
  · exact nl_eO _
theorem isSt_true {R : Rc} {s : Sd3} (h : s.Ok R) {S : Store} {Q : QE} (q : Q (.bl true) S) : isStC [eRc R, eSd s] S Q := by
  refine ⟨R.map eSt, eSd s, rfl, nl_eSd s, ?_⟩
  rw [List.length_map, standB_eSd h]
  exact q
theorem add_eBs {a b : List Bool} (h : a.length + b.length ≤ 1000) {S : Store} {Q : QE} (q : Q (eBs (a ++ b)) S) : addD (eBs a) (.tup (b.map D.bl)) S Q := by
  have := szM
  refine ⟨by simp only [List.length_map]; omega, ?_⟩
  rw [← List.map_append]
  exact q
theorem tup_eIs {ns : List Int} {S : Store} {Q : QE} (q : Q (eIs ns) S) : tupleC [.lst (ns.map D.int)] S Q := tup_lst.mpr q
/-- the same over what is said of a list of anything -/
theorem compL_mapE {α : Type} {j : Nat} {te : WE} {src : Store → Option (List D)} {all : List D} {ρ : Env} {Q : QA} {S : Store} (e f : α → D) (hs : src S = some all) : ∀ (l : List α) (acc : List D), (∀ a ∈ l, ∀ N : QE, N (f a) S → te (ρ.set j (some (e a))) S N) → Q (acc ++ l.map f) S → compL j (fun _ S Q => Q true S) te src all ρ (l.map e) S acc Q
  | [], acc, _, q => by
    rw [List.map_nil, List.append_nil] at q
    exact q
  | x :: xs, acc, h, q => by
    rw [List.map_cons]
    unfold compL
    show if true = true then _ else _
    rw [if_pos rfl]
    refine h x List.mem_cons_self _ ⟨hs, compL_mapE e f hs xs (acc ++ [f x]) (fun y hy => h y (List.mem_cons_of_mem _ hy)) ?_⟩
    rw [List.map_cons] at q
    simpa using q
end Pv

namespace Pv
open PySem L2 PySem.Spec PyProof.Rows
def n_law : List Str := ["_law_script", "_law_spring_here", "_law_turn", "_law_numbers_here", "_law_found", "_law_number", "_law_moved", "_law_receiver_here", "_law_origin", "_law_cut", "_law_by", "_law_whole", "_law_stand", "_law_taken"]
def a_law : List Str := ["_law_script"]
def b_law (i_p_is_stand i_p_hear i_p_answers i_p_stand_after i_spring i_dip i_pick i_receiver i_numbers i_last i_alike : Nat) : Cs := (.cons (.set (.nm 1) (.call i_spring (.cons (.var 0) .nil))) (.cons (.for_ (.nm 2) (.r1 (.int 5)) (.cons (.par 7 8 (.call i_receiver (.cons (.var 1) (.cons (.int 4) (.cons (.int 6) .nil)))) (.call i_last (.cons (.var 1) .nil))) (.cons (.set (.nm 3) (.call i_numbers (.cons (.var 1) (.cons (.var 7) (.cons (.var 8) (.cons (.int 60) .nil)))))) (.cons (.set (.tp (.cons (.nm 9) (.cons (.nm 10) .nil))) (.tup (.cons (.call i_dip (.cons (.var 1) (.cons (.bin .add (.blt .len (.cons (.var 3) .nil)) (.int 1)) .nil))) (.cons (.call i_pick (.cons (.var 1) (.cons (.lst (.cons (.int 3) (.cons (.neg (.bin .pow (.int 10) (.int 45))) .nil))) .nil))) .nil)))) (.cons (.par 11 12 (.calk i_p_answers (.cons (.var 7) (.cons (.var 3) .nil)) (.var 8)) (.calk i_p_stand_after (.cons (.var 7) (.cons (.sl (.var 3) .no (.so (.var 9))) .nil)) (.var 8))) (.cons (.set (.nm 4) (.calk i_p_answers (.cons (.var 7) (.cons (.sl (.var 3) .no (.so (.var 9))) .nil)) (.var 8))) (.cons (.for_ (.nm 5) (.seq (.sl (.var 3) (.so (.var 9)) .no)) (.cons (.ife (.nt (.call i_p_is_stand (.cons (.var 7) (.cons (.var 12) .nil)))) (.cons (.ret (.bl false)) .nil) .nil) (.cons (.set (.tp (.cons (.nm 13) (.cons (.nm 12) .nil))) (.call i_p_hear (.cons (.var 7) (.cons (.var 12) (.cons (.var 5) .nil))))) (.cons (.set (.nm 4) (.bin .add (.var 4) (.tup (.cons (.var 13) .nil)))) .nil)))) (.cons (.ife (.or (.cons (.nt (.call i_alike (.cons (.var 4) (.cons (.var 11) .nil)))) (.cons (.nt (.call i_alike (.cons (.var 12) (.cons (.calk i_p_stand_after (.cons (.var 7) (.cons (.var 3) .nil)) (.var 8)) .nil)))) .nil))) (.cons (.ret (.bl false)) .nil) .nil) (.cons (.set (.nm 6) (.bty .tuple (.cons (.comp (.seq (.var 3)) 5 .no (.bin .add (.var 5) (.var 10))) .nil))) (.cons (.ife (.nt (.call i_alike (.cons (.calk i_p_answers (.cons (.var 7) (.cons (.var 6) .nil)) (.bin .add (.var 8) (.var 10))) (.cons (.var 11) .nil)))) (.cons (.ret (.bl false)) .nil) .nil) .nil)))))))))) (.cons (.ret (.bl true)) .nil)))
theorem wp_law (Γ : Gm) {is_stand hear answers stand_after spring dip pick receiver numbers last alike : Nat} (h0 : Γ.fn is_stand = isStC) (h1 : Γ.fn hear = hearK) (h2 : Γ.fn answers = answersK) (h3 : Γ.fn stand_after = standsK) (h4 : Γ.fn spring = springC) (h5 : Γ.fn dip = dipC) (h6 : Γ.fn pick = pickC) (h7 : Γ.fn receiver = receiverK) (h9 : Γ.fn numbers = numbersK) (h10 : Γ.fn last = intsC) (h11 : Γ.fn alike = alC 6) :
    ∀ ds S Q, lawC 63 ds S Q → wSs Γ (b_law is_stand hear answers stand_after spring dip pick receiver numbers last alike) (inE n_law ds) S { nx := fun _ S' => Q .non S', rt := Q } := by
  rintro _ S Q ⟨ns, rfl, hl, rfl, q⟩
  have z := szM
  show wSs Γ (b_law is_stand hear answers stand_after spring dip pick receiver numbers last alike) [some (.lst (ns.map D.int)), none, none, none, none, none, none, none, none, none, none, none, none, none] [] _
  refine seq_gen fun N hN => ?_
  simp only [wSs, wSt, wP, wEs, bAn, bOr, wOp, wCd, wIt, pr, prB, wTru, wB, wVar, wC, w1, w2, wL, wTup, wLst, wNew, wNil, wCons, wNot, wAnd, wOr, vNot, vAnd, vOr, wIf, wChain, wRet, wRetN, wIfS, wSeq, wSkip, wAsg, wPar, wTri, wPut, wDrop, wT, wTs, Ts.len, gN, gT, tupL, gNl, gCn, wSl, wSome, wNone, wEmp, wNewd, wNewd1, wCompT, wipeE, wFor, wComp, iR1, iSeq, Bo.o2, Co.o2, Bl.ol, Bt.ol, intD, subD, modD, fdivD, powD, boolD, ltD_int, mul_int, mul_tup, iEn, isND, ↓reduceIte, Bool.false_eq_true, List.length_cons, List.length_nil, Nat.reduceAdd, Nat.zero_add, sz_true, Nat.reduceLeDiff, eq_int, addL, List.cons_append, List.nil_append, ne_eq, reduceCtorEq, not_false_eq_true, not_true_eq_false, tru_bl, ex_cons, ex_two, ex_one, ex_i, ex_ij, ex_bl, ex_env, Bool.bne_false, Bool.bne_true, at3_0, at3_1, at3_2, seqx_tup, seqx_lst, negD, absD, addI, defl, lf1, Lf.d, List.getElem?_cons_zero, List.getElem?_cons_succ, List.set_cons_zero, List.set_cons_succ, Option.some.injEq, exists_eq_left', exists_eq_left, D.int.injEq, D.bl.injEq, D.tup.injEq, D.str.injEq, D.loc.injEq, D.lst.injEq, and_true, true_and, exists_and_left, exists_and_right, decide_eq_true_eq, Bool.not_eq_true', decide_eq_false_iff_not, h4]
  refine ⟨ns, rfl, fun S1 hs => hN _ _ ?_⟩
  clear hN N
  refine seq_gen fun N hN => ?_
  have fin : ∀ ρ S', N ρ S' := fun ρ S' => hN _ _ (by
    refine seq_one ?_
    simp only [wSs, wSt, wP, wEs, bAn, bOr, wOp, wCd, wIt, pr, prB, wTru, wB, wVar, wC, w1, w2, wL, wTup, wLst, wNew, wNil, wCons, wNot, wAnd, wOr, vNot, vAnd, vOr, wIf, wChain, wRet, wRetN, wIfS, wSeq, wSkip, wAsg, wPar, wTri, wPut, wDrop, wT, wTs, Ts.len, gN, gT, tupL, gNl, gCn, wSl, wSome, wNone, wEmp, wNewd, wNewd1, wCompT, wipeE, wFor, wComp, iR1, iSeq, Bo.o2, Co.o2, Bl.ol, Bt.ol, intD, subD, modD, fdivD, powD, boolD, ltD_int, mul_int, mul_tup, iEn, isND, ↓reduceIte, Bool.false_eq_true, List.length_cons, List.length_nil, Nat.reduceAdd, Nat.zero_add, sz_true, Nat.reduceLeDiff, eq_int, addL, List.cons_append, List.nil_append, ne_eq, reduceCtorEq, not_false_eq_true, not_true_eq_false, tru_bl, ex_cons, ex_two, ex_one, ex_i, ex_ij, ex_bl, ex_env, Bool.bne_false, Bool.bne_true, at3_0, at3_1, at3_2, seqx_tup, seqx_lst, negD, absD, addI, defl, lf1, Lf.d, List.getElem?_cons_zero, List.getElem?_cons_succ, List.set_cons_zero, List.set_cons_succ, Option.some.injEq, exists_eq_left', exists_eq_left, D.int.injEq, D.bl.injEq, D.tup.injEq, D.str.injEq, D.loc.injEq, D.lst.injEq, and_true, true_and, exists_and_left, exists_and_right, decide_eq_true_eq, Bool.not_eq_true', decide_eq_false_iff_not]
    exact q _)
  clear hN
  refine for_step fun B hB => ?_
  simp only [wSs, wSt, wP, wEs, bAn, bOr, wOp, wCd, wIt, pr, prB, wTru, wB, wVar, wC, w1, w2, wL, wTup, wLst, wNew, wNil, wCons, wNot, wAnd, wOr, vNot, vAnd, vOr, wIf, wChain, wRet, wRetN, wIfS, wSeq, wSkip, wAsg, wPar, wTri, wPut, wDrop, wT, wTs, Ts.len, gN, gT, tupL, gNl, gCn, wSl, wSome, wNone, wEmp, wNewd, wNewd1, wCompT, wipeE, wFor, wComp, iR1, iSeq, Bo.o2, Co.o2, Bl.ol, Bt.ol, intD, subD, modD, fdivD, powD, boolD, ltD_int, mul_int, mul_tup, iEn, isND, ↓reduceIte, Bool.false_eq_true, List.length_cons, List.length_nil, Nat.reduceAdd, Nat.zero_add, sz_true, Nat.reduceLeDiff, eq_int, addL, List.cons_append, List.nil_append, ne_eq, reduceCtorEq, not_false_eq_true, not_true_eq_false, tru_bl, ex_cons, ex_two, ex_one, ex_i, ex_ij, ex_bl, ex_env, Bool.bne_false, Bool.bne_true, at3_0, at3_1, at3_2, seqx_tup, seqx_lst, negD, absD, addI, defl, lf1, Lf.d, List.getElem?_cons_zero, List.getElem?_cons_succ, List.set_cons_zero, List.set_cons_succ, Option.some.injEq, exists_eq_left', exists_eq_left, D.int.injEq, D.bl.injEq, D.tup.injEq, D.str.injEq, D.loc.injEq, D.lst.injEq, and_true, true_and, exists_and_left, exists_and_right, decide_eq_true_eq, Bool.not_eq_true', decide_eq_false_iff_not]
  refine ⟨by omega, by omega, ?_⟩
  refine forL_of (I := fun l ρ S' => Spr S' 0 ∧ ∃ a b c d e f g h i j k m, ρ = [some (.lst (ns.map D.int)), some (.loc 0), a, b, c, d, e, f, g, h, i, j, k, m]) ?_ ?_ _ _ _ ⟨hs, _, _, _, _, _, _, _, _, _, _, _, _, rfl⟩
  · exact fun ρ S' _ => fin ρ S'
  rintro x xs ρ S2 M ⟨hs2, a, b, c, d, e, f, g, h, i, j, k, m, rfl⟩ hM
  subst hB
  refine seq_gen fun N1 hN => ?_
  simp only [wSs, wSt, wP, wEs, bAn, bOr, wOp, wCd, wIt, pr, prB, wTru, wB, wVar, wC, w1, w2, wL, wTup, wLst, wNew, wNil, wCons, wNot, wAnd, wOr, vNot, vAnd, vOr, wIf, wChain, wRet, wRetN, wIfS, wSeq, wSkip, wAsg, wPar, wTri, wPut, wDrop, wT, wTs, Ts.len, gN, gT, tupL, gNl, gCn, wSl, wSome, wNone, wEmp, wNewd, wNewd1, wCompT, wipeE, wFor, wComp, iR1, iSeq, Bo.o2, Co.o2, Bl.ol, Bt.ol, intD, subD, modD, fdivD, powD, boolD, ltD_int, mul_int, mul_tup, iEn, isND, ↓reduceIte, Bool.false_eq_true, List.length_cons, List.length_nil, Nat.reduceAdd, Nat.zero_add, sz_true, Nat.reduceLeDiff, eq_int, addL, List.cons_append, List.nil_append, ne_eq, reduceCtorEq, not_false_eq_true, not_true_eq_false, tru_bl, ex_cons, ex_two, ex_one, ex_i, ex_ij, ex_bl, ex_env, Bool.bne_false, Bool.bne_true, at3_0, at3_1, at3_2, seqx_tup, seqx_lst, negD, absD, addI, defl, lf1, Lf.d, List.getElem?_cons_zero, List.getElem?_cons_succ, List.set_cons_zero, List.set_cons_succ, Option.some.injEq, exists_eq_left', exists_eq_left, D.int.injEq, D.bl.injEq, D.tup.injEq, D.str.injEq, D.loc.injEq, D.lst.injEq, and_true, true_and, exists_and_left, exists_and_right, decide_eq_true_eq, Bool.not_eq_true', decide_eq_false_iff_not, h7, receiverK_iff, h10, intsC_iff]
  refine ⟨by omega, by omega, by omega, by omega, hs2, fun R S3 ok d3 => ⟨d3.spr, fun o S4 d4 => hN _ _ ?_⟩⟩
  have ok' : Rc.Ok 100 100 R := ok.mono (by decide) (by decide)
  clear hN N1
  refine seq_gen fun N1 hN => ?_
  simp only [wSs, wSt, wP, wEs, bAn, bOr, wOp, wCd, wIt, pr, prB, wTru, wB, wVar, wC, w1, w2, wL, wTup, wLst, wNew, wNil, wCons, wNot, wAnd, wOr, vNot, vAnd, vOr, wIf, wChain, wRet, wRetN, wIfS, wSeq, wSkip, wAsg, wPar, wTri, wPut, wDrop, wT, wTs, Ts.len, gN, gT, tupL, gNl, gCn, wSl, wSome, wNone, wEmp, wNewd, wNewd1, wCompT, wipeE, wFor, wComp, iR1, iSeq, Bo.o2, Co.o2, Bl.ol, Bt.ol, intD, subD, modD, fdivD, powD, boolD, ltD_int, mul_int, mul_tup, iEn, isND, ↓reduceIte, Bool.false_eq_true, List.length_cons, List.length_nil, Nat.reduceAdd, Nat.zero_add, sz_true, Nat.reduceLeDiff, eq_int, addL, List.cons_append, List.nil_append, ne_eq, reduceCtorEq, not_false_eq_true, not_true_eq_false, tru_bl, ex_cons, ex_two, ex_one, ex_i, ex_ij, ex_bl, ex_env, Bool.bne_false, Bool.bne_true, at3_0, at3_1, at3_2, seqx_tup, seqx_lst, negD, absD, addI, defl, lf1, Lf.d, List.getElem?_cons_zero, List.getElem?_cons_succ, List.set_cons_zero, List.set_cons_succ, Option.some.injEq, exists_eq_left', exists_eq_left, D.int.injEq, D.bl.injEq, D.tup.injEq, D.str.injEq, D.loc.injEq, D.lst.injEq, and_true, true_and, exists_and_left, exists_and_right, decide_eq_true_eq, Bool.not_eq_true', decide_eq_false_iff_not, h9]
  refine numbersK_iff ok' (by omega) (by omega) d4.spr fun xs S5 hxs d5 => hN _ _ ?_
  clear hN N1
  refine seq_gen fun N1 hN => ?_
  have c45 : CPow 10 45 := ⟨by omega, by omega, by decide⟩
  simp only [wSs, wSt, wP, wEs, bAn, bOr, wOp, wCd, wIt, pr, prB, wTru, wB, wVar, wC, w1, w2, wL, wTup, wLst, wNew, wNil, wCons, wNot, wAnd, wOr, vNot, vAnd, vOr, wIf, wChain, wRet, wRetN, wIfS, wSeq, wSkip, wAsg, wPar, wTri, wPut, wDrop, wT, wTs, Ts.len, gN, gT, tupL, gNl, gCn, wSl, wSome, wNone, wEmp, wNewd, wNewd1, wCompT, wipeE, wFor, wComp, iR1, iSeq, Bo.o2, Co.o2, Bl.ol, Bt.ol, intD, subD, modD, fdivD, powD, boolD, ltD_int, mul_int, mul_tup, iEn, isND, ↓reduceIte, Bool.false_eq_true, List.length_cons, List.length_nil, Nat.reduceAdd, Nat.zero_add, sz_true, Nat.reduceLeDiff, eq_int, addL, List.cons_append, List.nil_append, ne_eq, reduceCtorEq, not_false_eq_true, not_true_eq_false, tru_bl, ex_cons, ex_two, ex_one, ex_i, ex_ij, ex_bl, ex_env, Bool.bne_false, Bool.bne_true, at3_0, at3_1, at3_2, seqx_tup, seqx_lst, negD, absD, addI, defl, lf1, Lf.d, List.getElem?_cons_zero, List.getElem?_cons_succ, List.set_cons_zero, List.set_cons_succ, Option.some.injEq, exists_eq_left', exists_eq_left, D.int.injEq, D.bl.injEq, D.tup.injEq, D.str.injEq, D.loc.injEq, D.lst.injEq, and_true, true_and, exists_and_left, exists_and_right, decide_eq_true_eq, Bool.not_eq_true', decide_eq_false_iff_not, h5, dipC_iff, len_eIs, h6, pickC_iff, c45]
  refine ⟨by omega, by omega, d5.spr, fun ct S6 ct0 ct1 d6 => ⟨by omega, d6.spr, fun bd S7 hbd d7 => ?_⟩⟩
  obtain ⟨by_, rfl⟩ : ∃ b : Int, bd = .int b := by
    simp only [List.mem_cons, List.not_mem_nil, or_false] at hbd
    rcases hbd with rfl | rfl <;> exact ⟨_, rfl⟩
  refine hN _ _ ?_
  clear hN N1 hbd
  refine seq_gen fun N1 hN => ?_
  simp only [wSs, wSt, wP, wEs, bAn, bOr, wOp, wCd, wIt, pr, prB, wTru, wB, wVar, wC, w1, w2, wL, wTup, wLst, wNew, wNil, wCons, wNot, wAnd, wOr, vNot, vAnd, vOr, wIf, wChain, wRet, wRetN, wIfS, wSeq, wSkip, wAsg, wPar, wTri, wPut, wDrop, wT, wTs, Ts.len, gN, gT, tupL, gNl, gCn, wSl, wSome, wNone, wEmp, wNewd, wNewd1, wCompT, wipeE, wFor, wComp, iR1, iSeq, Bo.o2, Co.o2, Bl.ol, Bt.ol, intD, subD, modD, fdivD, powD, boolD, ltD_int, mul_int, mul_tup, iEn, isND, ↓reduceIte, Bool.false_eq_true, List.length_cons, List.length_nil, Nat.reduceAdd, Nat.zero_add, sz_true, Nat.reduceLeDiff, eq_int, addL, List.cons_append, List.nil_append, ne_eq, reduceCtorEq, not_false_eq_true, not_true_eq_false, tru_bl, ex_cons, ex_two, ex_one, ex_i, ex_ij, ex_bl, ex_env, Bool.bne_false, Bool.bne_true, at3_0, at3_1, at3_2, seqx_tup, seqx_lst, negD, absD, addI, defl, lf1, Lf.d, List.getElem?_cons_zero, List.getElem?_cons_succ, List.set_cons_zero, List.set_cons_succ, Option.some.injEq, exists_eq_left', exists_eq_left, D.int.injEq, D.bl.injEq, D.tup.injEq, D.str.injEq, D.loc.injEq, D.lst.injEq, and_true, true_and, exists_and_left, exists_and_right, decide_eq_true_eq, Bool.not_eq_true', decide_eq_false_iff_not, h2, h3, sl_eIs_to ct0]
  refine answersK_of ok' (by omega) fun S8 e8 => ?_
  refine standsK_of ok' (hN _ _ ?_)
  clear hN N1
  have d8 := d7.ext e8
  refine seq_gen fun N1 hN => ?_
  simp only [wSs, wSt, wP, wEs, bAn, bOr, wOp, wCd, wIt, pr, prB, wTru, wB, wVar, wC, w1, w2, wL, wTup, wLst, wNew, wNil, wCons, wNot, wAnd, wOr, vNot, vAnd, vOr, wIf, wChain, wRet, wRetN, wIfS, wSeq, wSkip, wAsg, wPar, wTri, wPut, wDrop, wT, wTs, Ts.len, gN, gT, tupL, gNl, gCn, wSl, wSome, wNone, wEmp, wNewd, wNewd1, wCompT, wipeE, wFor, wComp, iR1, iSeq, Bo.o2, Co.o2, Bl.ol, Bt.ol, intD, subD, modD, fdivD, powD, boolD, ltD_int, mul_int, mul_tup, iEn, isND, ↓reduceIte, Bool.false_eq_true, List.length_cons, List.length_nil, Nat.reduceAdd, Nat.zero_add, sz_true, Nat.reduceLeDiff, eq_int, addL, List.cons_append, List.nil_append, ne_eq, reduceCtorEq, not_false_eq_true, not_true_eq_false, tru_bl, ex_cons, ex_two, ex_one, ex_i, ex_ij, ex_bl, ex_env, Bool.bne_false, Bool.bne_true, at3_0, at3_1, at3_2, seqx_tup, seqx_lst, negD, absD, addI, defl, lf1, Lf.d, List.getElem?_cons_zero, List.getElem?_cons_succ, List.set_cons_zero, List.set_cons_succ, Option.some.injEq, exists_eq_left', exists_eq_left, D.int.injEq, D.bl.injEq, D.tup.injEq, D.str.injEq, D.loc.injEq, D.lst.injEq, and_true, true_and, exists_and_left, exists_and_right, decide_eq_true_eq, Bool.not_eq_true', decide_eq_false_iff_not, h2, sl_eIs_to ct0]
  refine answersK_of ok' (by rw [List.length_take]; omega) fun S9 e9 => hN _ _ ?_
  clear hN N1
  have d9 := d8.ext e9
  have wt : walkR R (beg o) xs = ((walkR R (beg o) (xs.take ct.toNat)).1 ++ (walkR R (walkR R (beg o) (xs.take ct.toNat)).2 (xs.drop ct.toNat)).1, (walkR R (walkR R (beg o) (xs.take ct.toNat)).2 (xs.drop ct.toNat)).2) := by
    rw [← walk_app, List.take_append_drop]
  generalize hA : walkR R (beg o) (xs.take ct.toNat) = A at *
  have okA : A.2.Ok R := by
    rw [← hA]
    exact walk_ok ok' _ _ (beg_ok ok' o)
  have lA : A.1.length + (xs.drop ct.toNat).length = xs.length := by
    rw [← hA, walk_len, List.length_take, List.length_drop]
    omega
  refine seq_gen fun N1 hN => ?_
  have done : ∀ a b, N1 [some (.lst (ns.map D.int)), some (.loc 0), some x, some (eIs xs), some (eBs (walkR R (beg o) xs).1), a, e, some (eRc R), some (.int o), some (.int ct), some (.int by_), some (eBs (walkR R (beg o) xs).1), some (eSd (walkR R (beg o) xs).2), b] S9 := by
    intro a b
    refine hN _ _ ?_
    clear hN N1
    have hl2 : (walkR R (beg o) xs).1.length ≤ 5000 := by rw [walk_len]; omega
    refine seq_gen fun N1 hN => ?_
    simp only [wSs, wSt, wP, wEs, bAn, bOr, wOp, wCd, wIt, pr, prB, wTru, wB, wVar, wC, w1, w2, wL, wTup, wLst, wNew, wNil, wCons, wNot, wAnd, wOr, vNot, vAnd, vOr, wIf, wChain, wRet, wRetN, wIfS, wSeq, wSkip, wAsg, wPar, wTri, wPut, wDrop, wT, wTs, Ts.len, gN, gT, tupL, gNl, gCn, wSl, wSome, wNone, wEmp, wNewd, wNewd1, wCompT, wipeE, wFor, wComp, iR1, iSeq, Bo.o2, Co.o2, Bl.ol, Bt.ol, intD, subD, modD, fdivD, powD, boolD, ltD_int, mul_int, mul_tup, iEn, isND, ↓reduceIte, Bool.false_eq_true, List.length_cons, List.length_nil, Nat.reduceAdd, Nat.zero_add, sz_true, Nat.reduceLeDiff, eq_int, addL, List.cons_append, List.nil_append, ne_eq, reduceCtorEq, not_false_eq_true, not_true_eq_false, tru_bl, ex_cons, ex_two, ex_one, ex_i, ex_ij, ex_bl, ex_env, Bool.bne_false, Bool.bne_true, at3_0, at3_1, at3_2, seqx_tup, seqx_lst, negD, absD, addI, defl, lf1, Lf.d, List.getElem?_cons_zero, List.getElem?_cons_succ, List.set_cons_zero, List.set_cons_succ, Option.some.injEq, exists_eq_left', exists_eq_left, D.int.injEq, D.bl.injEq, D.tup.injEq, D.str.injEq, D.loc.injEq, D.lst.injEq, and_true, true_and, exists_and_left, exists_and_right, decide_eq_true_eq, Bool.not_eq_true', decide_eq_false_iff_not, h11, h3]
    refine al_ok (n := 5) rfl (al_eBs hl2) ?_
    simp only [wSs, wSt, wP, wEs, bAn, bOr, wOp, wCd, wIt, pr, prB, wTru, wB, wVar, wC, w1, w2, wL, wTup, wLst, wNew, wNil, wCons, wNot, wAnd, wOr, vNot, vAnd, vOr, wIf, wChain, wRet, wRetN, wIfS, wSeq, wSkip, wAsg, wPar, wTri, wPut, wDrop, wT, wTs, Ts.len, gN, gT, tupL, gNl, gCn, wSl, wSome, wNone, wEmp, wNewd, wNewd1, wCompT, wipeE, wFor, wComp, iR1, iSeq, Bo.o2, Co.o2, Bl.ol, Bt.ol, intD, subD, modD, fdivD, powD, boolD, ltD_int, mul_int, mul_tup, iEn, isND, ↓reduceIte, Bool.false_eq_true, List.length_cons, List.length_nil, Nat.reduceAdd, Nat.zero_add, sz_true, Nat.reduceLeDiff, eq_int, addL, List.cons_append, List.nil_append, ne_eq, reduceCtorEq, not_false_eq_true, not_true_eq_false, tru_bl, ex_cons, ex_two, ex_one, ex_i, ex_ij, ex_bl, ex_env, Bool.bne_false, Bool.bne_true, at3_0, at3_1, at3_2, seqx_tup, seqx_lst, negD, absD, addI, defl, lf1, Lf.d, List.getElem?_cons_zero, List.getElem?_cons_succ, List.set_cons_zero, List.set_cons_succ, Option.some.injEq, exists_eq_left', exists_eq_left, D.int.injEq, D.bl.injEq, D.tup.injEq, D.str.injEq, D.loc.injEq, D.lst.injEq, and_true, true_and, exists_and_left, exists_and_right, decide_eq_true_eq, Bool.not_eq_true', decide_eq_false_iff_not, Bool.not_true, h3, h11]
    refine standsK_of ok' (al_ok (n := 5) rfl al_eSd ?_)
    simp only [wSs, wSt, wP, wEs, bAn, bOr, wOp, wCd, wIt, pr, prB, wTru, wB, wVar, wC, w1, w2, wL, wTup, wLst, wNew, wNil, wCons, wNot, wAnd, wOr, vNot, vAnd, vOr, wIf, wChain, wRet, wRetN, wIfS, wSeq, wSkip, wAsg, wPar, wTri, wPut, wDrop, wT, wTs, Ts.len, gN, gT, tupL, gNl, gCn, wSl, wSome, wNone, wEmp, wNewd, wNewd1, wCompT, wipeE, wFor, wComp, iR1, iSeq, Bo.o2, Co.o2, Bl.ol, Bt.ol, intD, subD, modD, fdivD, powD, boolD, ltD_int, mul_int, mul_tup, iEn, isND, ↓reduceIte, Bool.false_eq_true, List.length_cons, List.length_nil, Nat.reduceAdd, Nat.zero_add, sz_true, Nat.reduceLeDiff, eq_int, addL, List.cons_append, List.nil_append, ne_eq, reduceCtorEq, not_false_eq_true, not_true_eq_false, tru_bl, ex_cons, ex_two, ex_one, ex_i, ex_ij, ex_bl, ex_env, Bool.bne_false, Bool.bne_true, at3_0, at3_1, at3_2, seqx_tup, seqx_lst, negD, absD, addI, defl, lf1, Lf.d, List.getElem?_cons_zero, List.getElem?_cons_succ, List.set_cons_zero, List.set_cons_succ, Option.some.injEq, exists_eq_left', exists_eq_left, D.int.injEq, D.bl.injEq, D.tup.injEq, D.str.injEq, D.loc.injEq, D.lst.injEq, and_true, true_and, exists_and_left, exists_and_right, decide_eq_true_eq, Bool.not_eq_true', decide_eq_false_iff_not, Bool.not_true]
    refine hN _ _ ?_
    clear hN N1
    refine seq_gen fun N1 hN => ?_
    simp only [wSs, wSt, wP, wEs, bAn, bOr, wOp, wCd, wIt, pr, prB, wTru, wB, wVar, wC, w1, w2, wL, wTup, wLst, wNew, wNil, wCons, wNot, wAnd, wOr, vNot, vAnd, vOr, wIf, wChain, wRet, wRetN, wIfS, wSeq, wSkip, wAsg, wPar, wTri, wPut, wDrop, wT, wTs, Ts.len, gN, gT, tupL, gNl, gCn, wSl, wSome, wNone, wEmp, wNewd, wNewd1, wCompT, wipeE, wFor, wComp, iR1, iSeq, Bo.o2, Co.o2, Bl.ol, Bt.ol, intD, subD, modD, fdivD, powD, boolD, ltD_int, mul_int, mul_tup, iEn, isND, ↓reduceIte, Bool.false_eq_true, List.length_cons, List.length_nil, Nat.reduceAdd, Nat.zero_add, sz_true, Nat.reduceLeDiff, eq_int, addL, List.cons_append, List.nil_append, ne_eq, reduceCtorEq, not_false_eq_true, not_true_eq_false, tru_bl, ex_cons, ex_two, ex_one, ex_i, ex_ij, ex_bl, ex_env, Bool.bne_false, Bool.bne_true, at3_0, at3_1, at3_2, seqx_tup, seqx_lst, negD, absD, addI, defl, lf1, Lf.d, List.getElem?_cons_zero, List.getElem?_cons_succ, List.set_cons_zero, List.set_cons_succ, Option.some.injEq, exists_eq_left', exists_eq_left, D.int.injEq, D.bl.injEq, D.tup.injEq, D.str.injEq, D.loc.injEq, D.lst.injEq, and_true, true_and, exists_and_left, exists_and_right, decide_eq_true_eq, Bool.not_eq_true', decide_eq_false_iff_not, seqx_eIs]
    refine compL_map (fun d => match d with | .int n => .int (n + by_) | d => d) rfl _ _ (fun x hx N hN => ?_) ?_
    · rw [List.mem_map] at hx
      obtain ⟨n, _, rfl⟩ := hx
      simp only [wSs, wSt, wP, wEs, bAn, bOr, wOp, wCd, wIt, pr, prB, wTru, wB, wVar, wC, w1, w2, wL, wTup, wLst, wNew, wNil, wCons, wNot, wAnd, wOr, vNot, vAnd, vOr, wIf, wChain, wRet, wRetN, wIfS, wSeq, wSkip, wAsg, wPar, wTri, wPut, wDrop, wT, wTs, Ts.len, gN, gT, tupL, gNl, gCn, wSl, wSome, wNone, wEmp, wNewd, wNewd1, wCompT, wipeE, wFor, wComp, iR1, iSeq, Bo.o2, Co.o2, Bl.ol, Bt.ol, intD, subD, modD, fdivD, powD, boolD, ltD_int, mul_int, mul_tup, iEn, isND, ↓reduceIte, Bool.false_eq_true, List.length_cons, List.length_nil, Nat.reduceAdd, Nat.zero_add, sz_true, Nat.reduceLeDiff, eq_int, addL, List.cons_append, List.nil_append, ne_eq, reduceCtorEq, not_false_eq_true, not_true_eq_false, tru_bl, ex_cons, ex_two, ex_one, ex_i, ex_ij, ex_bl, ex_env, Bool.bne_false, Bool.bne_true, at3_0, at3_1, at3_2, seqx_tup, seqx_lst, negD, absD, addI, defl, lf1, Lf.d, List.getElem?_cons_zero, List.getElem?_cons_succ, List.set_cons_zero, List.set_cons_succ, Option.some.injEq, exists_eq_left', exists_eq_left, D.int.injEq, D.bl.injEq, D.tup.injEq, D.str.injEq, D.loc.injEq, D.lst.injEq, and_true, true_and, exists_and_left, exists_and_right, decide_eq_true_eq, Bool.not_eq_true', decide_eq_false_iff_not]
      exact hN
    have em : [] ++ (xs.map D.int).map (fun d => match d with | .int n => D.int (n + by_) | d => d) = (xs.map (· + by_)).map D.int := by
      simp
    rw [em]
    refine tup_eIs (hN _ _ (seq_one ?_))
    clear hN N1
    simp only [wSs, wSt, wP, wEs, bAn, bOr, wOp, wCd, wIt, pr, prB, wTru, wB, wVar, wC, w1, w2, wL, wTup, wLst, wNew, wNil, wCons, wNot, wAnd, wOr, vNot, vAnd, vOr, wIf, wChain, wRet, wRetN, wIfS, wSeq, wSkip, wAsg, wPar, wTri, wPut, wDrop, wT, wTs, Ts.len, gN, gT, tupL, gNl, gCn, wSl, wSome, wNone, wEmp, wNewd, wNewd1, wCompT, wipeE, wFor, wComp, iR1, iSeq, Bo.o2, Co.o2, Bl.ol, Bt.ol, intD, subD, modD, fdivD, powD, boolD, ltD_int, mul_int, mul_tup, iEn, isND, ↓reduceIte, Bool.false_eq_true, List.length_cons, List.length_nil, Nat.reduceAdd, Nat.zero_add, sz_true, Nat.reduceLeDiff, eq_int, addL, List.cons_append, List.nil_append, ne_eq, reduceCtorEq, not_false_eq_true, not_true_eq_false, tru_bl, ex_cons, ex_two, ex_one, ex_i, ex_ij, ex_bl, ex_env, Bool.bne_false, Bool.bne_true, at3_0, at3_1, at3_2, seqx_tup, seqx_lst, negD, absD, addI, defl, lf1, Lf.d, List.getElem?_cons_zero, List.getElem?_cons_succ, List.set_cons_zero, List.set_cons_succ, Option.some.injEq, exists_eq_left', exists_eq_left, D.int.injEq, D.bl.injEq, D.tup.injEq, D.str.injEq, D.loc.injEq, D.lst.injEq, and_true, true_and, exists_and_left, exists_and_right, decide_eq_true_eq, Bool.not_eq_true', decide_eq_false_iff_not, h2, h11]
    refine answersK_of ok' (by rw [List.length_map]; omega) fun S10 e10 => ?_
    have hb : beg (o + by_) = mv (beg o) by_ := rfl
    rw [hb, walk_mv]
    refine al_ok (n := 5) rfl (al_eBs hl2) ?_
    simp only [wSs, wSt, wP, wEs, bAn, bOr, wOp, wCd, wIt, pr, prB, wTru, wB, wVar, wC, w1, w2, wL, wTup, wLst, wNew, wNil, wCons, wNot, wAnd, wOr, vNot, vAnd, vOr, wIf, wChain, wRet, wRetN, wIfS, wSeq, wSkip, wAsg, wPar, wTri, wPut, wDrop, wT, wTs, Ts.len, gN, gT, tupL, gNl, gCn, wSl, wSome, wNone, wEmp, wNewd, wNewd1, wCompT, wipeE, wFor, wComp, iR1, iSeq, Bo.o2, Co.o2, Bl.ol, Bt.ol, intD, subD, modD, fdivD, powD, boolD, ltD_int, mul_int, mul_tup, iEn, isND, ↓reduceIte, Bool.false_eq_true, List.length_cons, List.length_nil, Nat.reduceAdd, Nat.zero_add, sz_true, Nat.reduceLeDiff, eq_int, addL, List.cons_append, List.nil_append, ne_eq, reduceCtorEq, not_false_eq_true, not_true_eq_false, tru_bl, ex_cons, ex_two, ex_one, ex_i, ex_ij, ex_bl, ex_env, Bool.bne_false, Bool.bne_true, at3_0, at3_1, at3_2, seqx_tup, seqx_lst, negD, absD, addI, defl, lf1, Lf.d, List.getElem?_cons_zero, List.getElem?_cons_succ, List.set_cons_zero, List.set_cons_succ, Option.some.injEq, exists_eq_left', exists_eq_left, D.int.injEq, D.bl.injEq, D.tup.injEq, D.str.injEq, D.loc.injEq, D.lst.injEq, and_true, true_and, exists_and_left, exists_and_right, decide_eq_true_eq, Bool.not_eq_true', decide_eq_false_iff_not, Bool.not_true]
    exact hM _ _ rfl ⟨(d9.ext e10).spr, _, _, _, _, _, _, _, _, _, _, _, _, rfl⟩
  clear hN
  refine for_step fun B hB => ?_
  simp only [wSs, wSt, wP, wEs, bAn, bOr, wOp, wCd, wIt, pr, prB, wTru, wB, wVar, wC, w1, w2, wL, wTup, wLst, wNew, wNil, wCons, wNot, wAnd, wOr, vNot, vAnd, vOr, wIf, wChain, wRet, wRetN, wIfS, wSeq, wSkip, wAsg, wPar, wTri, wPut, wDrop, wT, wTs, Ts.len, gN, gT, tupL, gNl, gCn, wSl, wSome, wNone, wEmp, wNewd, wNewd1, wCompT, wipeE, wFor, wComp, iR1, iSeq, Bo.o2, Co.o2, Bl.ol, Bt.ol, intD, subD, modD, fdivD, powD, boolD, ltD_int, mul_int, mul_tup, iEn, isND, ↓reduceIte, Bool.false_eq_true, List.length_cons, List.length_nil, Nat.reduceAdd, Nat.zero_add, sz_true, Nat.reduceLeDiff, eq_int, addL, List.cons_append, List.nil_append, ne_eq, reduceCtorEq, not_false_eq_true, not_true_eq_false, tru_bl, ex_cons, ex_two, ex_one, ex_i, ex_ij, ex_bl, ex_env, Bool.bne_false, Bool.bne_true, at3_0, at3_1, at3_2, seqx_tup, seqx_lst, negD, absD, addI, defl, lf1, Lf.d, List.getElem?_cons_zero, List.getElem?_cons_succ, List.set_cons_zero, List.set_cons_succ, Option.some.injEq, exists_eq_left', exists_eq_left, D.int.injEq, D.bl.injEq, D.tup.injEq, D.str.injEq, D.loc.injEq, D.lst.injEq, and_true, true_and, exists_and_left, exists_and_right, decide_eq_true_eq, Bool.not_eq_true', decide_eq_false_iff_not, sl_eIs_from ct0, seqx_eIs]
  refine forI_of (fun rest ρ S' => S' = S9 ∧ ∃ s acc a b, ρ = [some (.lst (ns.map D.int)), some (.loc 0), some x, some (eIs xs), some (eBs acc), a, e, some (eRc R), some (.int o), some (.int ct), some (.int by_), some (eBs (walkR R (beg o) xs).1), some (eSd s), b] ∧ s.Ok R ∧ walkR R (beg o) xs = (acc ++ (walkR R s rest).1, (walkR R s rest).2) ∧ acc.length + rest.length = xs.length) ?_ ?_ _ _ _ ⟨rfl, A.2, A.1, _, _, rfl, okA, wt, lA⟩
  · rintro ρ S' ⟨rfl, s, acc, a, b, rfl, hs, hw, hn⟩
    have := done a b
    have e1 : acc = (walkR R (beg o) xs).1 := by rw [hw]; simp [walkR]
    have e2 : s = (walkR R (beg o) xs).2 := by rw [hw]; simp [walkR]
    rw [e1, e2]
    exact this
  · rintro n rest ρ S' M2 ⟨rfl, s, acc, a, b, rfl, hs, hw, hn⟩ hM2
    subst hB
    refine seq_gen fun N2 hN => ?_
    simp only [wSs, wSt, wP, wEs, bAn, bOr, wOp, wCd, wIt, pr, prB, wTru, wB, wVar, wC, w1, w2, wL, wTup, wLst, wNew, wNil, wCons, wNot, wAnd, wOr, vNot, vAnd, vOr, wIf, wChain, wRet, wRetN, wIfS, wSeq, wSkip, wAsg, wPar, wTri, wPut, wDrop, wT, wTs, Ts.len, gN, gT, tupL, gNl, gCn, wSl, wSome, wNone, wEmp, wNewd, wNewd1, wCompT, wipeE, wFor, wComp, iR1, iSeq, Bo.o2, Co.o2, Bl.ol, Bt.ol, intD, subD, modD, fdivD, powD, boolD, ltD_int, mul_int, mul_tup, iEn, isND, ↓reduceIte, Bool.false_eq_true, List.length_cons, List.length_nil, Nat.reduceAdd, Nat.zero_add, sz_true, Nat.reduceLeDiff, eq_int, addL, List.cons_append, List.nil_append, ne_eq, reduceCtorEq, not_false_eq_true, not_true_eq_false, tru_bl, ex_cons, ex_two, ex_one, ex_i, ex_ij, ex_bl, ex_env, Bool.bne_false, Bool.bne_true, at3_0, at3_1, at3_2, seqx_tup, seqx_lst, negD, absD, addI, defl, lf1, Lf.d, List.getElem?_cons_zero, List.getElem?_cons_succ, List.set_cons_zero, List.set_cons_succ, Option.some.injEq, exists_eq_left', exists_eq_left, D.int.injEq, D.bl.injEq, D.tup.injEq, D.str.injEq, D.loc.injEq, D.lst.injEq, and_true, true_and, exists_and_left, exists_and_right, decide_eq_true_eq, Bool.not_eq_true', decide_eq_false_iff_not, h0]
    refine isSt_true hs ?_
    simp only [wSs, wSt, wP, wEs, bAn, bOr, wOp, wCd, wIt, pr, prB, wTru, wB, wVar, wC, w1, w2, wL, wTup, wLst, wNew, wNil, wCons, wNot, wAnd, wOr, vNot, vAnd, vOr, wIf, wChain, wRet, wRetN, wIfS, wSeq, wSkip, wAsg, wPar, wTri, wPut, wDrop, wT, wTs, Ts.len, gN, gT, tupL, gNl, gCn, wSl, wSome, wNone, wEmp, wNewd, wNewd1, wCompT, wipeE, wFor, wComp, iR1, iSeq, Bo.o2, Co.o2, Bl.ol, Bt.ol, intD, subD, modD, fdivD, powD, boolD, ltD_int, mul_int, mul_tup, iEn, isND, ↓reduceIte, Bool.false_eq_true, List.length_cons, List.length_nil, Nat.reduceAdd, Nat.zero_add, sz_true, Nat.reduceLeDiff, eq_int, addL, List.cons_append, List.nil_append, ne_eq, reduceCtorEq, not_false_eq_true, not_true_eq_false, tru_bl, ex_cons, ex_two, ex_one, ex_i, ex_ij, ex_bl, ex_env, Bool.bne_false, Bool.bne_true, at3_0, at3_1, at3_2, seqx_tup, seqx_lst, negD, absD, addI, defl, lf1, Lf.d, List.getElem?_cons_zero, List.getElem?_cons_succ, List.set_cons_zero, List.set_cons_succ, Option.some.injEq, exists_eq_left', exists_eq_left, D.int.injEq, D.bl.injEq, D.tup.injEq, D.str.injEq, D.loc.injEq, D.lst.injEq, and_true, true_and, exists_and_left, exists_and_right, decide_eq_true_eq, Bool.not_eq_true', decide_eq_false_iff_not, Bool.not_true]
    refine hN _ _ ?_
    clear hN N2
    refine seq_gen fun N2 hN => ?_
    simp only [wSs, wSt, wP, wEs, bAn, bOr, wOp, wCd, wIt, pr, prB, wTru, wB, wVar, wC, w1, w2, wL, wTup, wLst, wNew, wNil, wCons, wNot, wAnd, wOr, vNot, vAnd, vOr, wIf, wChain, wRet, wRetN, wIfS, wSeq, wSkip, wAsg, wPar, wTri, wPut, wDrop, wT, wTs, Ts.len, gN, gT, tupL, gNl, gCn, wSl, wSome, wNone, wEmp, wNewd, wNewd1, wCompT, wipeE, wFor, wComp, iR1, iSeq, Bo.o2, Co.o2, Bl.ol, Bt.ol, intD, subD, modD, fdivD, powD, boolD, ltD_int, mul_int, mul_tup, iEn, isND, ↓reduceIte, Bool.false_eq_true, List.length_cons, List.length_nil, Nat.reduceAdd, Nat.zero_add, sz_true, Nat.reduceLeDiff, eq_int, addL, List.cons_append, List.nil_append, ne_eq, reduceCtorEq, not_false_eq_true, not_true_eq_false, tru_bl, ex_cons, ex_two, ex_one, ex_i, ex_ij, ex_bl, ex_env, Bool.bne_false, Bool.bne_true, at3_0, at3_1, at3_2, seqx_tup, seqx_lst, negD, absD, addI, defl, lf1, Lf.d, List.getElem?_cons_zero, List.getElem?_cons_succ, List.set_cons_zero, List.set_cons_succ, Option.some.injEq, exists_eq_left', exists_eq_left, D.int.injEq, D.bl.injEq, D.tup.injEq, D.str.injEq, D.loc.injEq, D.lst.injEq, and_true, true_and, exists_and_left, exists_and_right, decide_eq_true_eq, Bool.not_eq_true', decide_eq_false_iff_not, h1]
    refine hearK_of ok' hs.st ?_
    unfold eHr
    simp only [wSs, wSt, wP, wEs, bAn, bOr, wOp, wCd, wIt, pr, prB, wTru, wB, wVar, wC, w1, w2, wL, wTup, wLst, wNew, wNil, wCons, wNot, wAnd, wOr, vNot, vAnd, vOr, wIf, wChain, wRet, wRetN, wIfS, wSeq, wSkip, wAsg, wPar, wTri, wPut, wDrop, wT, wTs, Ts.len, gN, gT, tupL, gNl, gCn, wSl, wSome, wNone, wEmp, wNewd, wNewd1, wCompT, wipeE, wFor, wComp, iR1, iSeq, Bo.o2, Co.o2, Bl.ol, Bt.ol, intD, subD, modD, fdivD, powD, boolD, ltD_int, mul_int, mul_tup, iEn, isND, ↓reduceIte, Bool.false_eq_true, List.length_cons, List.length_nil, Nat.reduceAdd, Nat.zero_add, sz_true, Nat.reduceLeDiff, eq_int, addL, List.cons_append, List.nil_append, ne_eq, reduceCtorEq, not_false_eq_true, not_true_eq_false, tru_bl, ex_cons, ex_two, ex_one, ex_i, ex_ij, ex_bl, ex_env, Bool.bne_false, Bool.bne_true, at3_0, at3_1, at3_2, seqx_tup, seqx_lst, negD, absD, addI, defl, lf1, Lf.d, List.getElem?_cons_zero, List.getElem?_cons_succ, List.set_cons_zero, List.set_cons_succ, Option.some.injEq, exists_eq_left', exists_eq_left, D.int.injEq, D.bl.injEq, D.tup.injEq, D.str.injEq, D.loc.injEq, D.lst.injEq, and_true, true_and, exists_and_left, exists_and_right, decide_eq_true_eq, Bool.not_eq_true', decide_eq_false_iff_not]
    refine hN _ _ (seq_one ?_)
    clear hN N2
    simp only [List.length_cons] at hn
    simp only [wSs, wSt, wP, wEs, bAn, bOr, wOp, wCd, wIt, pr, prB, wTru, wB, wVar, wC, w1, w2, wL, wTup, wLst, wNew, wNil, wCons, wNot, wAnd, wOr, vNot, vAnd, vOr, wIf, wChain, wRet, wRetN, wIfS, wSeq, wSkip, wAsg, wPar, wTri, wPut, wDrop, wT, wTs, Ts.len, gN, gT, tupL, gNl, gCn, wSl, wSome, wNone, wEmp, wNewd, wNewd1, wCompT, wipeE, wFor, wComp, iR1, iSeq, Bo.o2, Co.o2, Bl.ol, Bt.ol, intD, subD, modD, fdivD, powD, boolD, ltD_int, mul_int, mul_tup, iEn, isND, ↓reduceIte, Bool.false_eq_true, List.length_cons, List.length_nil, Nat.reduceAdd, Nat.zero_add, sz_true, Nat.reduceLeDiff, eq_int, addL, List.cons_append, List.nil_append, ne_eq, reduceCtorEq, not_false_eq_true, not_true_eq_false, tru_bl, ex_cons, ex_two, ex_one, ex_i, ex_ij, ex_bl, ex_env, Bool.bne_false, Bool.bne_true, at3_0, at3_1, at3_2, seqx_tup, seqx_lst, negD, absD, addI, defl, lf1, Lf.d, List.getElem?_cons_zero, List.getElem?_cons_succ, List.set_cons_zero, List.set_cons_succ, Option.some.injEq, exists_eq_left', exists_eq_left, D.int.injEq, D.bl.injEq, D.tup.injEq, D.str.injEq, D.loc.injEq, D.lst.injEq, and_true, true_and, exists_and_left, exists_and_right, decide_eq_true_eq, Bool.not_eq_true', decide_eq_false_iff_not]
    refine add_eBs (b := [(hearR R s n).1]) (by simp; omega) (hM2 _ _ rfl ⟨rfl, (hearR R s n).2, _, _, _, rfl, hear_ok ok' hs n, ?_, ?_⟩)
    · rw [hw]
      simp [walkR]
    · simp only [List.length_append, List.length_cons, List.length_nil]
      omega
end Pv

namespace Pv
open PySem L2 PySem.Spec PyProof.Rows
def topS (i : Nat) : Stmt := PySem.Challenge.pw_lateposts_k06_whole_hearing.main.body.getD i (.Pass ⟨0, 0, 0, 0⟩)
abbrev s_p_is_integer : Stmt := topS 2
abbrev s_p_is_index : Stmt := topS 3
abbrev s_p_is_tuple : Stmt := topS 4
abbrev s_p_lies_in : Stmt := topS 6
abbrev s_p_is_stand : Stmt := topS 7
abbrev s_p_rest_of : Stmt := topS 9
abbrev s_p__comes_after : Stmt := topS 12
abbrev s_p_counting_row : Stmt := topS 11
abbrev s_p__deed_done : Stmt := topS 13
abbrev s_p_step_from : Stmt := topS 10
abbrev s_p__stand_at : Stmt := topS 18
abbrev s_p_hear : Stmt := topS 15
abbrev s_p_answers : Stmt := topS 16
abbrev s_p_stand_after : Stmt := topS 17
abbrev s_spring : Stmt := topS 20
abbrev s_dip : Stmt := topS 21
abbrev s_pick : Stmt := topS 22
abbrev s_range : Stmt := topS 23
abbrev s_row : Stmt := topS 24
abbrev s_window : Stmt := topS 25
abbrev s_paired : Stmt := topS 26
abbrev s_receiver : Stmt := topS 27
abbrev s_lies : Stmt := topS 28
abbrev s_counting : Stmt := topS 29
abbrev s_step : Stmt := topS 30
abbrev s_rest : Stmt := topS 31
abbrev s_heard : Stmt := topS 32
abbrev s_numbers : Stmt := topS 33
abbrev s_last : Stmt := topS 34
abbrev s_alike : Stmt := topS 35
abbrev s_law : Stmt := topS 36
def ln_p_is_integer : List Str := ["value"]
def la_p_is_integer : List Str := ["value"]
def ln_p_is_index : List Str := ["value", "many"]
def la_p_is_index : List Str := ["value", "many"]
def ln_p_is_tuple : List Str := ["value", "fewest", "most"]
def la_p_is_tuple : List Str := ["value", "fewest", "most"]
def ln_p_lies_in : List Str := ["number", "limits", "low", "high"]
def la_p_lies_in : List Str := ["number", "limits"]
def ln_p_is_stand : List Str := ["receiver", "value", "state", "last", "kept"]
def la_p_is_stand : List Str := ["receiver", "value"]
def ln_p_rest_of : List Str := ["stand", "state", "last", "kept"]
def la_p_rest_of : List Str := ["stand"]
def ln_p__comes_after : List Str := ["rest", "step", "after"]
def la_p__comes_after : List Str := ["rest", "step", "after"]
def ln_p_counting_row : List Str := ["receiver", "rest", "step", "at", "row"]
def la_p_counting_row : List Str := ["receiver", "rest", "step"]
def ln_p__deed_done : List Str := ["row", "rest", "step", "deed", "to_state"]
def la_p__deed_done : List Str := ["row", "rest", "step"]
def ln_p_step_from : List Str := ["receiver", "rest", "step", "at"]
def la_p_step_from : List Str := ["receiver", "rest", "step"]
def ln_p__stand_at : List Str := ["rest", "last"]
def la_p__stand_at : List Str := ["rest", "last"]
def ln_p_hear : List Str := ["receiver", "stand", "number", "last", "taken", "rest"]
def la_p_hear : List Str := ["receiver", "stand", "number"]
def ln_p_answers : List Str := ["receiver", "numbers", "last", "stand", "told", "number", "taken"]
def la_p_answers : List Str := ["receiver", "numbers", "last"]
def ln_p_stand_after : List Str := ["receiver", "numbers", "last", "stand", "number", "_"]
def la_p_stand_after : List Str := ["receiver", "numbers", "last"]
def ln_spring : List Str := ["_law_script", "_law_cell", "_law_great", "_law_mixed", "_law_more"]
def la_spring : List Str := ["_law_script"]
def ln_dip : List Str := ["_law_spring_here", "_law_many", "_law_more", "_law_digit"]
def la_dip : List Str := ["_law_spring_here", "_law_many"]
def ln_pick : List Str := ["_law_spring_here", "_law_some"]
def la_pick : List Str := ["_law_spring_here", "_law_some"]
def ln_range : List Str := ["_law_spring_here", "_law_way", "_law_low"]
def la_range : List Str := ["_law_spring_here"]
def ln_row : List Str := ["_law_spring_here", "_law_many", "_law_deed", "_law_ahead", "_law_after"]
def la_row : List Str := ["_law_spring_here", "_law_many"]
def ln_window : List Str := ["_law_size"]
def la_window : List Str := ["_law_size"]
def ln_paired : List Str := ["_law_size", "_law_wide", "_law_times", "_law_k", "_law_zone", "_law_found", "_law_rows"]
def la_paired : List Str := ["_law_size", "_law_wide", "_law_times"]
def ln_receiver : List Str := ["_law_spring_here", "_law_states", "_law_rows", "_law_way", "_law_many", "_law_found", "_law_state", "_law_size", "_law_k"]
def la_receiver : List Str := ["_law_spring_here", "_law_states", "_law_rows"]
def ln_lies : List Str := ["_law_number", "_law_own"]
def la_lies : List Str := ["_law_number", "_law_own"]
def ln_counting : List Str := ["_law_receiver_here", "_law_rest_here", "_law_step_here", "_law_k", "_law_ahead", "_law_after"]
def la_counting : List Str := ["_law_receiver_here", "_law_rest_here", "_law_step_here"]
def ln_step : List Str := ["_law_receiver_here", "_law_rest_here", "_law_step_here", "_law_k", "_law_deed", "_law_behind"]
def la_step : List Str := ["_law_receiver_here", "_law_rest_here", "_law_step_here"]
def ln_rest : List Str := ["_law_stand"]
def la_rest : List Str := ["_law_stand"]
def ln_heard : List Str := ["_law_receiver_here", "_law_stand", "_law_number", "_law_origin", "_law_taken", "_law_rest_here"]
def la_heard : List Str := ["_law_receiver_here", "_law_stand", "_law_number"]
def ln_numbers : List Str := ["_law_spring_here", "_law_receiver_here", "_law_origin", "_law_many", "_law_k", "_law_stand", "_law_found", "_law_way", "_law_number"]
def la_numbers : List Str := ["_law_spring_here", "_law_receiver_here", "_law_origin", "_law_many"]
def ln_last : List Str := ["_law_spring_here"]
def la_last : List Str := ["_law_spring_here"]
def ln_alike : List Str := ["_law_found", "_law_due", "_law_k"]
def la_alike : List Str := ["_law_found", "_law_due"]
def ln_law : List Str := ["_law_script", "_law_spring_here", "_law_turn", "_law_numbers_here", "_law_found", "_law_number", "_law_moved", "_law_receiver_here", "_law_origin", "_law_cut", "_law_by", "_law_whole", "_law_stand", "_law_taken"]
def la_law : List Str := ["_law_script"]
def d0 : Df := ⟨"is_integer", s_p_is_integer, ln_p_is_integer, la_p_is_integer, b_p_is_integer, 1, (one isIntC), []⟩
def d1 : Df := ⟨"is_index", s_p_is_index, ln_p_is_index, la_p_is_index, (b_p_is_index 0), 1, (one isIdxC), []⟩
def d2 : Df := ⟨"is_tuple", s_p_is_tuple, ln_p_is_tuple, la_p_is_tuple, b_p_is_tuple, 1, (one isTupC), []⟩
def d3 : Df := ⟨"lies_in", s_p_lies_in, ln_p_lies_in, la_p_lies_in, b_p_lies_in, 1, (one liesK), []⟩
def d4 : Df := ⟨"is_stand", s_p_is_stand, ln_p_is_stand, la_p_is_stand, (b_p_is_stand 0 1 2 0), 1, (one isStC), []⟩
def d5 : Df := ⟨"rest_of", s_p_rest_of, ln_p_rest_of, la_p_rest_of, b_p_rest_of, 1, (one restK), []⟩
def d6 : Df := ⟨"_comes_after", s_p__comes_after, ln_p__comes_after, la_p__comes_after, (b_p__comes_after 3), 1, (one afterK), []⟩
def d7 : Df := ⟨"counting_row", s_p_counting_row, ln_p_counting_row, la_p_counting_row, (b_p_counting_row 3 6), 1, (one countK), []⟩
def d8 : Df := ⟨"_deed_done", s_p__deed_done, ln_p__deed_done, la_p__deed_done, b_p__deed_done, 1, (one doneK), []⟩
def d9 : Df := ⟨"step_from", s_p_step_from, ln_p_step_from, la_p_step_from, (b_p_step_from 7 8), 1, (one stepK), []⟩
def d10 : Df := ⟨"_stand_at", s_p__stand_at, ln_p__stand_at, la_p__stand_at, b_p__stand_at, 1, (one standK), []⟩
def d11 : Df := ⟨"hear", s_p_hear, ln_p_hear, la_p_hear, (b_p_hear 5 9 10), 1, (one hearK), []⟩
def d12 : Df := ⟨"answers", s_p_answers, ln_p_answers, la_p_answers, (b_p_answers 11), 1, (one answersK), [("last", .int 0)]⟩
def d13 : Df := ⟨"stand_after", s_p_stand_after, ln_p_stand_after, la_p_stand_after, (b_p_stand_after 11), 1, (one standsK), [("last", .int 0)]⟩
def d14 : Df := ⟨"_law_spring", s_spring, ln_spring, la_spring, b_spring, 1, (one springC), []⟩
def d15 : Df := ⟨"_law_dip", s_dip, ln_dip, la_dip, b_dip, 1, (one dipC), []⟩
def d16 : Df := ⟨"_law_pick", s_pick, ln_pick, la_pick, (b_pick 15), 1, (one pickC), []⟩
def d17 : Df := ⟨"_law_range", s_range, ln_range, la_range, (b_range 15), 1, (one rangeK), []⟩
def d18 : Df := ⟨"_law_row", s_row, ln_row, la_row, (b_row 15 16 17), 1, (one rowK), []⟩
def d19 : Df := ⟨"_law_window", s_window, ln_window, la_window, b_window, 1, (one windowK), []⟩
def d20 : Df := ⟨"_law_paired", s_paired, ln_paired, la_paired, b_paired, 1, (one pairedK), []⟩
def d21 : Df := ⟨"_law_receiver", s_receiver, ln_receiver, la_receiver, (b_receiver 15 18 19 20), 1, (one receiverK), []⟩
def d22 : Df := ⟨"_law_lies", s_lies, ln_lies, la_lies, b_lies, 1, (one liesK), []⟩
def d23 : Df := ⟨"_law_counting", s_counting, ln_counting, la_counting, (b_counting 22), 1, (one countK), []⟩
def d24 : Df := ⟨"_law_step", s_step, ln_step, la_step, (b_step 23), 1, (one stepK), []⟩
def d25 : Df := ⟨"_law_rest", s_rest, ln_rest, la_rest, b_rest, 1, (one restK), []⟩
def d26 : Df := ⟨"_law_heard", s_heard, ln_heard, la_heard, (b_heard 24 25), 1, (one hearK), []⟩
def d27 : Df := ⟨"_law_numbers", s_numbers, ln_numbers, la_numbers, (b_numbers 15 16 26), 1, (one numbersK), []⟩
def d28 : Df := ⟨"_law_last", s_last, ln_last, la_last, (b_last 16), 1, (one intsC), []⟩
def d29 : Df := ⟨"_law_alike", s_alike, ln_alike, la_alike, (b_alike 29), 6, alC, []⟩
def d30 : Df := ⟨"law", s_law, ln_law, la_law, (b_law 4 11 12 13 14 15 16 21 27 28 29), 1, (one (lawC 63)), []⟩
def defs : List Df := [d0, d1, d2, d3, d4, d5, d6, d7, d8, d9, d10, d11, d12, d13, d14, d15, d16, d17, d18, d19, d20, d21, d22, d23, d24, d25, d26, d27, d28, d29, d30]
def gs : List Str := ["MAX_BOUND"]
def gl : Nat → D := fun i => ([D.int 6] : List D).getD i .non
theorem sc_p_is_integer : FnScope ln_p_is_integer la_p_is_integer (defScope s_p_is_integer) := ⟨rfl, rfl, rfl, by decide +kernel, rfl, by decide +kernel, by decide +kernel⟩
theorem tx_p_is_integer : mCs ⟨ln_p_is_integer, defs.map Df.x, gs, defs.map Df.kw⟩ b_p_is_integer (defScope s_p_is_integer) (defBody s_p_is_integer) = true := by decide +kernel
theorem sc_p_is_index : FnScope ln_p_is_index la_p_is_index (defScope s_p_is_index) := ⟨rfl, rfl, rfl, by decide +kernel, rfl, by decide +kernel, by decide +kernel⟩
theorem tx_p_is_index : mCs ⟨ln_p_is_index, defs.map Df.x, gs, defs.map Df.kw⟩ (b_p_is_index 0) (defScope s_p_is_index) (defBody s_p_is_index) = true := by decide +kernel
theorem sc_p_is_tuple : FnScope ln_p_is_tuple la_p_is_tuple (defScope s_p_is_tuple) := ⟨rfl, rfl, rfl, by decide +kernel, rfl, by decide +kernel, by decide +kernel⟩
theorem tx_p_is_tuple : mCs ⟨ln_p_is_tuple, defs.map Df.x, gs, defs.map Df.kw⟩ b_p_is_tuple (defScope s_p_is_tuple) (defBody s_p_is_tuple) = true := by decide +kernel
theorem sc_p_lies_in : FnScope ln_p_lies_in la_p_lies_in (defScope s_p_lies_in) := ⟨rfl, rfl, rfl, by decide +kernel, rfl, by decide +kernel, by decide +kernel⟩
theorem tx_p_lies_in : mCs ⟨ln_p_lies_in, defs.map Df.x, gs, defs.map Df.kw⟩ b_p_lies_in (defScope s_p_lies_in) (defBody s_p_lies_in) = true := by decide +kernel
theorem sc_p_is_stand : FnScope ln_p_is_stand la_p_is_stand (defScope s_p_is_stand) := ⟨rfl, rfl, rfl, by decide +kernel, rfl, by decide +kernel, by decide +kernel⟩
theorem tx_p_is_stand : mCs ⟨ln_p_is_stand, defs.map Df.x, gs, defs.map Df.kw⟩ (b_p_is_stand 0 1 2 0) (defScope s_p_is_stand) (defBody s_p_is_stand) = true := by decide +kernel
theorem sc_p_rest_of : FnScope ln_p_rest_of la_p_rest_of (defScope s_p_rest_of) := ⟨rfl, rfl, rfl, by decide +kernel, rfl, by decide +kernel, by decide +kernel⟩
theorem tx_p_rest_of : mCs ⟨ln_p_rest_of, defs.map Df.x, gs, defs.map Df.kw⟩ b_p_rest_of (defScope s_p_rest_of) (defBody s_p_rest_of) = true := by decide +kernel
theorem sc_p__comes_after : FnScope ln_p__comes_after la_p__comes_after (defScope s_p__comes_after) := ⟨rfl, rfl, rfl, by decide +kernel, rfl, by decide +kernel, by decide +kernel⟩
theorem tx_p__comes_after : mCs ⟨ln_p__comes_after, defs.map Df.x, gs, defs.map Df.kw⟩ (b_p__comes_after 3) (defScope s_p__comes_after) (defBody s_p__comes_after) = true := by decide +kernel
theorem sc_p_counting_row : FnScope ln_p_counting_row la_p_counting_row (defScope s_p_counting_row) := ⟨rfl, rfl, rfl, by decide +kernel, rfl, by decide +kernel, by decide +kernel⟩
theorem tx_p_counting_row : mCs ⟨ln_p_counting_row, defs.map Df.x, gs, defs.map Df.kw⟩ (b_p_counting_row 3 6) (defScope s_p_counting_row) (defBody s_p_counting_row) = true := by decide +kernel
theorem sc_p__deed_done : FnScope ln_p__deed_done la_p__deed_done (defScope s_p__deed_done) := ⟨rfl, rfl, rfl, by decide +kernel, rfl, by decide +kernel, by decide +kernel⟩
theorem tx_p__deed_done : mCs ⟨ln_p__deed_done, defs.map Df.x, gs, defs.map Df.kw⟩ b_p__deed_done (defScope s_p__deed_done) (defBody s_p__deed_done) = true := by decide +kernel
theorem sc_p_step_from : FnScope ln_p_step_from la_p_step_from (defScope s_p_step_from) := ⟨rfl, rfl, rfl, by decide +kernel, rfl, by decide +kernel, by decide +kernel⟩
theorem tx_p_step_from : mCs ⟨ln_p_step_from, defs.map Df.x, gs, defs.map Df.kw⟩ (b_p_step_from 7 8) (defScope s_p_step_from) (defBody s_p_step_from) = true := by decide +kernel
theorem sc_p__stand_at : FnScope ln_p__stand_at la_p__stand_at (defScope s_p__stand_at) := ⟨rfl, rfl, rfl, by decide +kernel, rfl, by decide +kernel, by decide +kernel⟩
theorem tx_p__stand_at : mCs ⟨ln_p__stand_at, defs.map Df.x, gs, defs.map Df.kw⟩ b_p__stand_at (defScope s_p__stand_at) (defBody s_p__stand_at) = true := by decide +kernel
theorem sc_p_hear : FnScope ln_p_hear la_p_hear (defScope s_p_hear) := ⟨rfl, rfl, rfl, by decide +kernel, rfl, by decide +kernel, by decide +kernel⟩
theorem tx_p_hear : mCs ⟨ln_p_hear, defs.map Df.x, gs, defs.map Df.kw⟩ (b_p_hear 5 9 10) (defScope s_p_hear) (defBody s_p_hear) = true := by decide +kernel
theorem sc_p_answers : FnScope ln_p_answers la_p_answers (defScope s_p_answers) := ⟨rfl, rfl, rfl, by decide +kernel, rfl, by decide +kernel, by decide +kernel⟩
theorem tx_p_answers : mCs ⟨ln_p_answers, defs.map Df.x, gs, defs.map Df.kw⟩ (b_p_answers 11) (defScope s_p_answers) (defBody s_p_answers) = true := by decide +kernel
theorem sc_p_stand_after : FnScope ln_p_stand_after la_p_stand_after (defScope s_p_stand_after) := ⟨rfl, rfl, rfl, by decide +kernel, rfl, by decide +kernel, by decide +kernel⟩
theorem tx_p_stand_after : mCs ⟨ln_p_stand_after, defs.map Df.x, gs, defs.map Df.kw⟩ (b_p_stand_after 11) (defScope s_p_stand_after) (defBody s_p_stand_after) = true := by decide +kernel
theorem sc_spring : FnScope ln_spring la_spring (defScope s_spring) := ⟨rfl, rfl, rfl, by decide +kernel, rfl, by decide +kernel, by decide +kernel⟩
theorem tx_spring : mCs ⟨ln_spring, defs.map Df.x, gs, defs.map Df.kw⟩ b_spring (defScope s_spring) (defBody s_spring) = true := by decide +kernel
theorem sc_dip : FnScope ln_dip la_dip (defScope s_dip) := ⟨rfl, rfl, rfl, by decide +kernel, rfl, by decide +kernel, by decide +kernel⟩
theorem tx_dip : mCs ⟨ln_dip, defs.map Df.x, gs, defs.map Df.kw⟩ b_dip (defScope s_dip) (defBody s_dip) = true := by decide +kernel
theorem sc_pick : FnScope ln_pick la_pick (defScope s_pick) := ⟨rfl, rfl, rfl, by decide +kernel, rfl, by decide +kernel, by decide +kernel⟩
theorem tx_pick : mCs ⟨ln_pick, defs.map Df.x, gs, defs.map Df.kw⟩ (b_pick 15) (defScope s_pick) (defBody s_pick) = true := by decide +kernel
theorem sc_range : FnScope ln_range la_range (defScope s_range) := ⟨rfl, rfl, rfl, by decide +kernel, rfl, by decide +kernel, by decide +kernel⟩
theorem tx_range : mCs ⟨ln_range, defs.map Df.x, gs, defs.map Df.kw⟩ (b_range 15) (defScope s_range) (defBody s_range) = true := by decide +kernel
theorem sc_row : FnScope ln_row la_row (defScope s_row) := ⟨rfl, rfl, rfl, by decide +kernel, rfl, by decide +kernel, by decide +kernel⟩
theorem tx_row : mCs ⟨ln_row, defs.map Df.x, gs, defs.map Df.kw⟩ (b_row 15 16 17) (defScope s_row) (defBody s_row) = true := by decide +kernel
theorem sc_window : FnScope ln_window la_window (defScope s_window) := ⟨rfl, rfl, rfl, by decide +kernel, rfl, by decide +kernel, by decide +kernel⟩
theorem tx_window : mCs ⟨ln_window, defs.map Df.x, gs, defs.map Df.kw⟩ b_window (defScope s_window) (defBody s_window) = true := by decide +kernel
theorem sc_paired : FnScope ln_paired la_paired (defScope s_paired) := ⟨rfl, rfl, rfl, by decide +kernel, rfl, by decide +kernel, by decide +kernel⟩
theorem tx_paired : mCs ⟨ln_paired, defs.map Df.x, gs, defs.map Df.kw⟩ b_paired (defScope s_paired) (defBody s_paired) = true := by decide +kernel
theorem sc_receiver : FnScope ln_receiver la_receiver (defScope s_receiver) := ⟨rfl, rfl, rfl, by decide +kernel, rfl, by decide +kernel, by decide +kernel⟩
theorem tx_receiver : mCs ⟨ln_receiver, defs.map Df.x, gs, defs.map Df.kw⟩ (b_receiver 15 18 19 20) (defScope s_receiver) (defBody s_receiver) = true := by decide +kernel
theorem sc_lies : FnScope ln_lies la_lies (defScope s_lies) := ⟨rfl, rfl, rfl, by decide +kernel, rfl, by decide +kernel, by decide +kernel⟩
theorem tx_lies : mCs ⟨ln_lies, defs.map Df.x, gs, defs.map Df.kw⟩ b_lies (defScope s_lies) (defBody s_lies) = true := by decide +kernel
theorem sc_counting : FnScope ln_counting la_counting (defScope s_counting) := ⟨rfl, rfl, rfl, by decide +kernel, rfl, by decide +kernel, by decide +kernel⟩
theorem tx_counting : mCs ⟨ln_counting, defs.map Df.x, gs, defs.map Df.kw⟩ (b_counting 22) (defScope s_counting) (defBody s_counting) = true := by decide +kernel
theorem sc_step : FnScope ln_step la_step (defScope s_step) := ⟨rfl, rfl, rfl, by decide +kernel, rfl, by decide +kernel, by decide +kernel⟩
theorem tx_step : mCs ⟨ln_step, defs.map Df.x, gs, defs.map Df.kw⟩ (b_step 23) (defScope s_step) (defBody s_step) = true := by decide +kernel
theorem sc_rest : FnScope ln_rest la_rest (defScope s_rest) := ⟨rfl, rfl, rfl, by decide +kernel, rfl, by decide +kernel, by decide +kernel⟩
theorem tx_rest : mCs ⟨ln_rest, defs.map Df.x, gs, defs.map Df.kw⟩ b_rest (defScope s_rest) (defBody s_rest) = true := by decide +kernel
theorem sc_heard : FnScope ln_heard la_heard (defScope s_heard) := ⟨rfl, rfl, rfl, by decide +kernel, rfl, by decide +kernel, by decide +kernel⟩
theorem tx_heard : mCs ⟨ln_heard, defs.map Df.x, gs, defs.map Df.kw⟩ (b_heard 24 25) (defScope s_heard) (defBody s_heard) = true := by decide +kernel
theorem sc_numbers : FnScope ln_numbers la_numbers (defScope s_numbers) := ⟨rfl, rfl, rfl, by decide +kernel, rfl, by decide +kernel, by decide +kernel⟩
theorem tx_numbers : mCs ⟨ln_numbers, defs.map Df.x, gs, defs.map Df.kw⟩ (b_numbers 15 16 26) (defScope s_numbers) (defBody s_numbers) = true := by decide +kernel
theorem sc_last : FnScope ln_last la_last (defScope s_last) := ⟨rfl, rfl, rfl, by decide +kernel, rfl, by decide +kernel, by decide +kernel⟩
theorem tx_last : mCs ⟨ln_last, defs.map Df.x, gs, defs.map Df.kw⟩ (b_last 16) (defScope s_last) (defBody s_last) = true := by decide +kernel
theorem sc_alike : FnScope ln_alike la_alike (defScope s_alike) := ⟨rfl, rfl, rfl, by decide +kernel, rfl, by decide +kernel, by decide +kernel⟩
theorem tx_alike : mCs ⟨ln_alike, defs.map Df.x, gs, defs.map Df.kw⟩ (b_alike 29) (defScope s_alike) (defBody s_alike) = true := by decide +kernel
theorem sc_law : FnScope ln_law la_law (defScope s_law) := ⟨rfl, rfl, rfl, by decide +kernel, rfl, by decide +kernel, by decide +kernel⟩
theorem tx_law : mCs ⟨ln_law, defs.map Df.x, gs, defs.map Df.kw⟩ (b_law 4 11 12 13 14 15 16 21 27 28 29) (defScope s_law) (defBody s_law) = true := by decide +kernel
theorem len_p_is_integer : ∀ r ds S Q, (one isIntC) (r + 1) ds S Q → ds.length = la_p_is_integer.length := by
  rintro r _ S Q ⟨_, rfl, _⟩
  rfl
theorem wpg_p_is_integer : ∀ r, r < 1 → ∀ ds S Q, (one isIntC) (r + 1) ds S Q → wSs (gam defs gl 0 r) b_p_is_integer (inE ln_p_is_integer ds) S { nx := fun _ S' => Q .non S', rt := Q } := fun r _ => wp_is_int (gam defs gl 0 r)
theorem len_p_is_index : ∀ r ds S Q, (one isIdxC) (r + 1) ds S Q → ds.length = la_p_is_index.length := by
  rintro r _ S Q ⟨_, _, rfl, _⟩
  rfl
theorem wpg_p_is_index : ∀ r, r < 1 → ∀ ds S Q, (one isIdxC) (r + 1) ds S Q → wSs (gam defs gl 1 r) (b_p_is_index 0) (inE ln_p_is_index ds) S { nx := fun _ S' => Q .non S', rt := Q } := fun r _ => wp_is_index (gam defs gl 1 r) rfl
theorem len_p_is_tuple : ∀ r ds S Q, (one isTupC) (r + 1) ds S Q → ds.length = la_p_is_tuple.length := by
  rintro r _ S Q ⟨_, _, _, rfl, _⟩
  rfl
theorem wpg_p_is_tuple : ∀ r, r < 1 → ∀ ds S Q, (one isTupC) (r + 1) ds S Q → wSs (gam defs gl 2 r) b_p_is_tuple (inE ln_p_is_tuple ds) S { nx := fun _ S' => Q .non S', rt := Q } := fun r _ => wp_is_tuple (gam defs gl 2 r)
theorem len_p_lies_in : ∀ r ds S Q, (one liesK) (r + 1) ds S Q → ds.length = la_p_lies_in.length := by
  rintro r _ S Q ⟨_, _, rfl, _⟩
  rfl
theorem wpg_p_lies_in : ∀ r, r < 1 → ∀ ds S Q, (one liesK) (r + 1) ds S Q → wSs (gam defs gl 3 r) b_p_lies_in (inE ln_p_lies_in ds) S { nx := fun _ S' => Q .non S', rt := Q } := fun r _ => wp_lies_in (gam defs gl 3 r)
theorem len_p_is_stand : ∀ r ds S Q, (one isStC) (r + 1) ds S Q → ds.length = la_p_is_stand.length := by
  rintro r _ S Q ⟨_, _, rfl, _⟩
  rfl
theorem wpg_p_is_stand : ∀ r, r < 1 → ∀ ds S Q, (one isStC) (r + 1) ds S Q → wSs (gam defs gl 4 r) (b_p_is_stand 0 1 2 0) (inE ln_p_is_stand ds) S { nx := fun _ S' => Q .non S', rt := Q } := fun r _ => wp_is_stand_p (gam defs gl 4 r) rfl rfl rfl rfl
theorem len_p_rest_of : ∀ r ds S Q, (one restK) (r + 1) ds S Q → ds.length = la_p_rest_of.length := by
  rintro r _ S Q ⟨_, rfl, _⟩
  rfl
theorem wpg_p_rest_of : ∀ r, r < 1 → ∀ ds S Q, (one restK) (r + 1) ds S Q → wSs (gam defs gl 5 r) b_p_rest_of (inE ln_p_rest_of ds) S { nx := fun _ S' => Q .non S', rt := Q } := fun r _ => wp_rest_of (gam defs gl 5 r)
theorem len_p__comes_after : ∀ r ds S Q, (one afterK) (r + 1) ds S Q → ds.length = la_p__comes_after.length := by
  rintro r _ S Q ⟨_, _, _, rfl, _⟩
  rfl
theorem wpg_p__comes_after : ∀ r, r < 1 → ∀ ds S Q, (one afterK) (r + 1) ds S Q → wSs (gam defs gl 6 r) (b_p__comes_after 3) (inE ln_p__comes_after ds) S { nx := fun _ S' => Q .non S', rt := Q } := fun r _ => wp_comes_after (gam defs gl 6 r) rfl
theorem len_p_counting_row : ∀ r ds S Q, (one countK) (r + 1) ds S Q → ds.length = la_p_counting_row.length := by
  rintro r _ S Q ⟨_, _, _, rfl, _⟩
  rfl
theorem wpg_p_counting_row : ∀ r, r < 1 → ∀ ds S Q, (one countK) (r + 1) ds S Q → wSs (gam defs gl 7 r) (b_p_counting_row 3 6) (inE ln_p_counting_row ds) S { nx := fun _ S' => Q .non S', rt := Q } := fun r _ => wp_counting_row (gam defs gl 7 r) rfl rfl
theorem len_p__deed_done : ∀ r ds S Q, (one doneK) (r + 1) ds S Q → ds.length = la_p__deed_done.length := by
  rintro r _ S Q ⟨_, _, _, rfl, _⟩
  rfl
theorem wpg_p__deed_done : ∀ r, r < 1 → ∀ ds S Q, (one doneK) (r + 1) ds S Q → wSs (gam defs gl 8 r) b_p__deed_done (inE ln_p__deed_done ds) S { nx := fun _ S' => Q .non S', rt := Q } := fun r _ => wp_deed_done (gam defs gl 8 r)
theorem len_p_step_from : ∀ r ds S Q, (one stepK) (r + 1) ds S Q → ds.length = la_p_step_from.length := by
  rintro r _ S Q ⟨_, _, _, rfl, _⟩
  rfl
theorem wpg_p_step_from : ∀ r, r < 1 → ∀ ds S Q, (one stepK) (r + 1) ds S Q → wSs (gam defs gl 9 r) (b_p_step_from 7 8) (inE ln_p_step_from ds) S { nx := fun _ S' => Q .non S', rt := Q } := fun r _ => wp_step_from (gam defs gl 9 r) rfl rfl
theorem len_p__stand_at : ∀ r ds S Q, (one standK) (r + 1) ds S Q → ds.length = la_p__stand_at.length := by
  rintro r _ S Q ⟨_, _, rfl, _⟩
  rfl
theorem wpg_p__stand_at : ∀ r, r < 1 → ∀ ds S Q, (one standK) (r + 1) ds S Q → wSs (gam defs gl 10 r) b_p__stand_at (inE ln_p__stand_at ds) S { nx := fun _ S' => Q .non S', rt := Q } := fun r _ => wp_stand_at (gam defs gl 10 r)
theorem len_p_hear : ∀ r ds S Q, (one hearK) (r + 1) ds S Q → ds.length = la_p_hear.length := by
  rintro r _ S Q ⟨_, _, _, rfl, _⟩
  rfl
theorem wpg_p_hear : ∀ r, r < 1 → ∀ ds S Q, (one hearK) (r + 1) ds S Q → wSs (gam defs gl 11 r) (b_p_hear 5 9 10) (inE ln_p_hear ds) S { nx := fun _ S' => Q .non S', rt := Q } := fun r _ => wp_hear (gam defs gl 11 r) rfl rfl rfl
theorem len_p_answers : ∀ r ds S Q, (one answersK) (r + 1) ds S Q → ds.length = la_p_answers.length := by
  rintro r _ S Q ⟨_, _, _, rfl, _⟩
  rfl
theorem wpg_p_answers : ∀ r, r < 1 → ∀ ds S Q, (one answersK) (r + 1) ds S Q → wSs (gam defs gl 12 r) (b_p_answers 11) (inE ln_p_answers ds) S { nx := fun _ S' => Q .non S', rt := Q } := fun r _ => wp_answers (gam defs gl 12 r) rfl
theorem len_p_stand_after : ∀ r ds S Q, (one standsK) (r + 1) ds S Q → ds.length = la_p_stand_after.length := by
  rintro r _ S Q ⟨_, _, _, rfl, _⟩
  rfl
theorem wpg_p_stand_after : ∀ r, r < 1 → ∀ ds S Q, (one standsK) (r + 1) ds S Q → wSs (gam defs gl 13 r) (b_p_stand_after 11) (inE ln_p_stand_after ds) S { nx := fun _ S' => Q .non S', rt := Q } := fun r _ => wp_stand_after (gam defs gl 13 r) rfl
theorem len_spring : ∀ r ds S Q, (one springC) (r + 1) ds S Q → ds.length = la_spring.length := by
  rintro r _ S Q ⟨_, rfl, _⟩
  rfl
theorem wpg_spring : ∀ r, r < 1 → ∀ ds S Q, (one springC) (r + 1) ds S Q → wSs (gam defs gl 14 r) b_spring (inE ln_spring ds) S { nx := fun _ S' => Q .non S', rt := Q } := fun r _ => wp_spring (gam defs gl 14 r)
theorem len_dip : ∀ r ds S Q, (one dipC) (r + 1) ds S Q → ds.length = la_dip.length := by
  rintro r _ S Q ⟨_, _, rfl, _⟩
  rfl
theorem wpg_dip : ∀ r, r < 1 → ∀ ds S Q, (one dipC) (r + 1) ds S Q → wSs (gam defs gl 15 r) b_dip (inE ln_dip ds) S { nx := fun _ S' => Q .non S', rt := Q } := fun r _ => wp_dip (gam defs gl 15 r)
theorem len_pick : ∀ r ds S Q, (one pickC) (r + 1) ds S Q → ds.length = la_pick.length := by
  rintro r _ S Q ⟨_, _, rfl, _⟩
  rfl
theorem wpg_pick : ∀ r, r < 1 → ∀ ds S Q, (one pickC) (r + 1) ds S Q → wSs (gam defs gl 16 r) (b_pick 15) (inE ln_pick ds) S { nx := fun _ S' => Q .non S', rt := Q } := fun r _ => wp_pick (gam defs gl 16 r) rfl
theorem len_range : ∀ r ds S Q, (one rangeK) (r + 1) ds S Q → ds.length = la_range.length := by
  rintro r _ S Q ⟨_, rfl, _⟩
  rfl
theorem wpg_range : ∀ r, r < 1 → ∀ ds S Q, (one rangeK) (r + 1) ds S Q → wSs (gam defs gl 17 r) (b_range 15) (inE ln_range ds) S { nx := fun _ S' => Q .non S', rt := Q } := fun r _ => wp_range (gam defs gl 17 r) rfl
theorem len_row : ∀ r ds S Q, (one rowK) (r + 1) ds S Q → ds.length = la_row.length := by
  rintro r _ S Q ⟨_, _, rfl, _⟩
  rfl
theorem wpg_row : ∀ r, r < 1 → ∀ ds S Q, (one rowK) (r + 1) ds S Q → wSs (gam defs gl 18 r) (b_row 15 16 17) (inE ln_row ds) S { nx := fun _ S' => Q .non S', rt := Q } := fun r _ => wp_row (gam defs gl 18 r) rfl rfl rfl
theorem len_window : ∀ r ds S Q, (one windowK) (r + 1) ds S Q → ds.length = la_window.length := by
  rintro r _ S Q ⟨_, rfl, _⟩
  rfl
theorem wpg_window : ∀ r, r < 1 → ∀ ds S Q, (one windowK) (r + 1) ds S Q → wSs (gam defs gl 19 r) b_window (inE ln_window ds) S { nx := fun _ S' => Q .non S', rt := Q } := fun r _ => wp_window (gam defs gl 19 r)
theorem len_paired : ∀ r ds S Q, (one pairedK) (r + 1) ds S Q → ds.length = la_paired.length := by
  rintro r _ S Q ⟨_, _, _, rfl, _⟩
  rfl
theorem wpg_paired : ∀ r, r < 1 → ∀ ds S Q, (one pairedK) (r + 1) ds S Q → wSs (gam defs gl 20 r) b_paired (inE ln_paired ds) S { nx := fun _ S' => Q .non S', rt := Q } := fun r _ => wp_paired (gam defs gl 20 r)
theorem len_receiver : ∀ r ds S Q, (one receiverK) (r + 1) ds S Q → ds.length = la_receiver.length := by
  rintro r _ S Q ⟨_, _, _, rfl, _⟩
  rfl
theorem wpg_receiver : ∀ r, r < 1 → ∀ ds S Q, (one receiverK) (r + 1) ds S Q → wSs (gam defs gl 21 r) (b_receiver 15 18 19 20) (inE ln_receiver ds) S { nx := fun _ S' => Q .non S', rt := Q } := fun r _ => wp_receiver (gam defs gl 21 r) rfl rfl rfl rfl
theorem len_lies : ∀ r ds S Q, (one liesK) (r + 1) ds S Q → ds.length = la_lies.length := by
  rintro r _ S Q ⟨_, _, rfl, _⟩
  rfl
theorem wpg_lies : ∀ r, r < 1 → ∀ ds S Q, (one liesK) (r + 1) ds S Q → wSs (gam defs gl 22 r) b_lies (inE ln_lies ds) S { nx := fun _ S' => Q .non S', rt := Q } := fun r _ => wp_lies (gam defs gl 22 r)
theorem len_counting : ∀ r ds S Q, (one countK) (r + 1) ds S Q → ds.length = la_counting.length := by
  rintro r _ S Q ⟨_, _, _, rfl, _⟩
  rfl
theorem wpg_counting : ∀ r, r < 1 → ∀ ds S Q, (one countK) (r + 1) ds S Q → wSs (gam defs gl 23 r) (b_counting 22) (inE ln_counting ds) S { nx := fun _ S' => Q .non S', rt := Q } := fun r _ => wp_counting (gam defs gl 23 r) rfl
theorem len_step : ∀ r ds S Q, (one stepK) (r + 1) ds S Q → ds.length = la_step.length := by
  rintro r _ S Q ⟨_, _, _, rfl, _⟩
  rfl
theorem wpg_step : ∀ r, r < 1 → ∀ ds S Q, (one stepK) (r + 1) ds S Q → wSs (gam defs gl 24 r) (b_step 23) (inE ln_step ds) S { nx := fun _ S' => Q .non S', rt := Q } := fun r _ => wp_step (gam defs gl 24 r) rfl
theorem len_rest : ∀ r ds S Q, (one restK) (r + 1) ds S Q → ds.length = la_rest.length := by
  rintro r _ S Q ⟨_, rfl, _⟩
  rfl
theorem wpg_rest : ∀ r, r < 1 → ∀ ds S Q, (one restK) (r + 1) ds S Q → wSs (gam defs gl 25 r) b_rest (inE ln_rest ds) S { nx := fun _ S' => Q .non S', rt := Q } := fun r _ => wp_rest (gam defs gl 25 r)
theorem len_heard : ∀ r ds S Q, (one hearK) (r + 1) ds S Q → ds.length = la_heard.length := by
  rintro r _ S Q ⟨_, _, _, rfl, _⟩
  rfl
theorem wpg_heard : ∀ r, r < 1 → ∀ ds S Q, (one hearK) (r + 1) ds S Q → wSs (gam defs gl 26 r) (b_heard 24 25) (inE ln_heard ds) S { nx := fun _ S' => Q .non S', rt := Q } := fun r _ => wp_heard (gam defs gl 26 r) rfl rfl
theorem len_numbers : ∀ r ds S Q, (one numbersK) (r + 1) ds S Q → ds.length = la_numbers.length := by
  rintro r _ S Q ⟨_, _, _, _, rfl, _⟩
  rfl
theorem wpg_numbers : ∀ r, r < 1 → ∀ ds S Q, (one numbersK) (r + 1) ds S Q → wSs (gam defs gl 27 r) (b_numbers 15 16 26) (inE ln_numbers ds) S { nx := fun _ S' => Q .non S', rt := Q } := fun r _ => wp_numbers (gam defs gl 27 r) rfl rfl rfl
theorem len_last : ∀ r ds S Q, (one intsC) (r + 1) ds S Q → ds.length = la_last.length := by
  rintro r _ S Q ⟨_, rfl, _⟩
  rfl
theorem wpg_last : ∀ r, r < 1 → ∀ ds S Q, (one intsC) (r + 1) ds S Q → wSs (gam defs gl 28 r) (b_last 16) (inE ln_last ds) S { nx := fun _ S' => Q .non S', rt := Q } := fun r _ => wp_last (gam defs gl 28 r) rfl
theorem len_alike : ∀ r ds S Q, alC (r + 1) ds S Q → ds.length = la_alike.length := by
  rintro r _ S Q ⟨_, rfl, _⟩
  rfl
theorem wpg_alike : ∀ r, r < 6 → ∀ ds S Q, alC (r + 1) ds S Q → wSs (gam defs gl 29 r) (b_alike 29) (inE ln_alike ds) S { nx := fun _ S' => Q .non S', rt := Q } := fun r _ => wp_alike (gam defs gl 29 r) r rfl
theorem len_law : ∀ r ds S Q, (one (lawC 63)) (r + 1) ds S Q → ds.length = la_law.length := by
  rintro r _ S Q ⟨_, rfl, _⟩
  rfl
theorem wpg_law : ∀ r, r < 1 → ∀ ds S Q, (one (lawC 63)) (r + 1) ds S Q → wSs (gam defs gl 30 r) (b_law 4 11 12 13 14 15 16 21 27 28 29) (inE ln_law ds) S { nx := fun _ S' => Q .non S', rt := Q } := fun r _ => wp_law (gam defs gl 30 r) rfl rfl rfl rfl rfl rfl rfl rfl rfl rfl rfl
theorem dok0 : DefOk defs gs gl 0 d0 := ⟨tx_p_is_integer, sc_p_is_integer, rfl, len_p_is_integer, wpg_p_is_integer⟩
theorem dok1 : DefOk defs gs gl 1 d1 := ⟨tx_p_is_index, sc_p_is_index, rfl, len_p_is_index, wpg_p_is_index⟩
theorem dok2 : DefOk defs gs gl 2 d2 := ⟨tx_p_is_tuple, sc_p_is_tuple, rfl, len_p_is_tuple, wpg_p_is_tuple⟩
theorem dok3 : DefOk defs gs gl 3 d3 := ⟨tx_p_lies_in, sc_p_lies_in, rfl, len_p_lies_in, wpg_p_lies_in⟩
theorem dok4 : DefOk defs gs gl 4 d4 := ⟨tx_p_is_stand, sc_p_is_stand, rfl, len_p_is_stand, wpg_p_is_stand⟩
theorem dok5 : DefOk defs gs gl 5 d5 := ⟨tx_p_rest_of, sc_p_rest_of, rfl, len_p_rest_of, wpg_p_rest_of⟩
theorem dok6 : DefOk defs gs gl 6 d6 := ⟨tx_p__comes_after, sc_p__comes_after, rfl, len_p__comes_after, wpg_p__comes_after⟩
theorem dok7 : DefOk defs gs gl 7 d7 := ⟨tx_p_counting_row, sc_p_counting_row, rfl, len_p_counting_row, wpg_p_counting_row⟩
theorem dok8 : DefOk defs gs gl 8 d8 := ⟨tx_p__deed_done, sc_p__deed_done, rfl, len_p__deed_done, wpg_p__deed_done⟩
theorem dok9 : DefOk defs gs gl 9 d9 := ⟨tx_p_step_from, sc_p_step_from, rfl, len_p_step_from, wpg_p_step_from⟩
theorem dok10 : DefOk defs gs gl 10 d10 := ⟨tx_p__stand_at, sc_p__stand_at, rfl, len_p__stand_at, wpg_p__stand_at⟩
theorem dok11 : DefOk defs gs gl 11 d11 := ⟨tx_p_hear, sc_p_hear, rfl, len_p_hear, wpg_p_hear⟩
theorem dok12 : DefOk defs gs gl 12 d12 := ⟨tx_p_answers, sc_p_answers, rfl, len_p_answers, wpg_p_answers⟩
theorem dok13 : DefOk defs gs gl 13 d13 := ⟨tx_p_stand_after, sc_p_stand_after, rfl, len_p_stand_after, wpg_p_stand_after⟩
theorem dok14 : DefOk defs gs gl 14 d14 := ⟨tx_spring, sc_spring, rfl, len_spring, wpg_spring⟩
theorem dok15 : DefOk defs gs gl 15 d15 := ⟨tx_dip, sc_dip, rfl, len_dip, wpg_dip⟩
theorem dok16 : DefOk defs gs gl 16 d16 := ⟨tx_pick, sc_pick, rfl, len_pick, wpg_pick⟩
theorem dok17 : DefOk defs gs gl 17 d17 := ⟨tx_range, sc_range, rfl, len_range, wpg_range⟩
theorem dok18 : DefOk defs gs gl 18 d18 := ⟨tx_row, sc_row, rfl, len_row, wpg_row⟩
theorem dok19 : DefOk defs gs gl 19 d19 := ⟨tx_window, sc_window, rfl, len_window, wpg_window⟩
theorem dok20 : DefOk defs gs gl 20 d20 := ⟨tx_paired, sc_paired, rfl, len_paired, wpg_paired⟩
theorem dok21 : DefOk defs gs gl 21 d21 := ⟨tx_receiver, sc_receiver, rfl, len_receiver, wpg_receiver⟩
theorem dok22 : DefOk defs gs gl 22 d22 := ⟨tx_lies, sc_lies, rfl, len_lies, wpg_lies⟩
theorem dok23 : DefOk defs gs gl 23 d23 := ⟨tx_counting, sc_counting, rfl, len_counting, wpg_counting⟩
theorem dok24 : DefOk defs gs gl 24 d24 := ⟨tx_step, sc_step, rfl, len_step, wpg_step⟩
theorem dok25 : DefOk defs gs gl 25 d25 := ⟨tx_rest, sc_rest, rfl, len_rest, wpg_rest⟩
theorem dok26 : DefOk defs gs gl 26 d26 := ⟨tx_heard, sc_heard, rfl, len_heard, wpg_heard⟩
theorem dok27 : DefOk defs gs gl 27 d27 := ⟨tx_numbers, sc_numbers, rfl, len_numbers, wpg_numbers⟩
theorem dok28 : DefOk defs gs gl 28 d28 := ⟨tx_last, sc_last, rfl, len_last, wpg_last⟩
theorem dok29 : DefOk defs gs gl 29 d29 := ⟨tx_alike, sc_alike, rfl, len_alike, wpg_alike⟩
theorem dok30 : DefOk defs gs gl 30 d30 := ⟨tx_law, sc_law, rfl, len_law, wpg_law⟩
theorem dok (i : Nat) (d : Df) (h : defs[i]? = some d) : DefOk defs gs gl i d := by
  match i, h with
  | 0, h => exact (Option.some.inj (show some d0 = some d from h)) ▸ dok0
  | 1, h => exact (Option.some.inj (show some d1 = some d from h)) ▸ dok1
  | 2, h => exact (Option.some.inj (show some d2 = some d from h)) ▸ dok2
  | 3, h => exact (Option.some.inj (show some d3 = some d from h)) ▸ dok3
  | 4, h => exact (Option.some.inj (show some d4 = some d from h)) ▸ dok4
  | 5, h => exact (Option.some.inj (show some d5 = some d from h)) ▸ dok5
  | 6, h => exact (Option.some.inj (show some d6 = some d from h)) ▸ dok6
  | 7, h => exact (Option.some.inj (show some d7 = some d from h)) ▸ dok7
  | 8, h => exact (Option.some.inj (show some d8 = some d from h)) ▸ dok8
  | 9, h => exact (Option.some.inj (show some d9 = some d from h)) ▸ dok9
  | 10, h => exact (Option.some.inj (show some d10 = some d from h)) ▸ dok10
  | 11, h => exact (Option.some.inj (show some d11 = some d from h)) ▸ dok11
  | 12, h => exact (Option.some.inj (show some d12 = some d from h)) ▸ dok12
  | 13, h => exact (Option.some.inj (show some d13 = some d from h)) ▸ dok13
  | 14, h => exact (Option.some.inj (show some d14 = some d from h)) ▸ dok14
  | 15, h => exact (Option.some.inj (show some d15 = some d from h)) ▸ dok15
  | 16, h => exact (Option.some.inj (show some d16 = some d from h)) ▸ dok16
  | 17, h => exact (Option.some.inj (show some d17 = some d from h)) ▸ dok17
  | 18, h => exact (Option.some.inj (show some d18 = some d from h)) ▸ dok18
  | 19, h => exact (Option.some.inj (show some d19 = some d from h)) ▸ dok19
  | 20, h => exact (Option.some.inj (show some d20 = some d from h)) ▸ dok20
  | 21, h => exact (Option.some.inj (show some d21 = some d from h)) ▸ dok21
  | 22, h => exact (Option.some.inj (show some d22 = some d from h)) ▸ dok22
  | 23, h => exact (Option.some.inj (show some d23 = some d from h)) ▸ dok23
  | 24, h => exact (Option.some.inj (show some d24 = some d from h)) ▸ dok24
  | 25, h => exact (Option.some.inj (show some d25 = some d from h)) ▸ dok25
  | 26, h => exact (Option.some.inj (show some d26 = some d from h)) ▸ dok26
  | 27, h => exact (Option.some.inj (show some d27 = some d from h)) ▸ dok27
  | 28, h => exact (Option.some.inj (show some d28 = some d from h)) ▸ dok28
  | 29, h => exact (Option.some.inj (show some d29 = some d from h)) ▸ dok29
  | 30, h => exact (Option.some.inj (show some d30 = some d from h)) ▸ dok30
  | n + 31, h => exact nomatch (show none = some d from h)
theorem all_mk {l : PySem.W.OpenLaw} {w : World} {K : PySem.W.Frag} {h : Heap} {mg : Str → Option Value} {fa f0 f1 f2 f3 f4 f5 f6 f7 f8 f9 f10 f11 f12 f13 f14 f15 f16 f17 f18 f19 f20 f21 f22 f23 f24 f25 f26 f27 f28 f29 f30 : Addr} (X : K.In h) (G : h.Ns mainGlobals mg) (hfa : mg "law" = some (.ref fa))
    {od0 an0 : Option Addr} {sl0 : Array (Option Value)} {oc0 kV0 dc0 pm0 cd0 ct0 : Value} (a0 : PySem.W.nsIn K mainGlobals "is_integer" = some (some (.ref f0))) (l0 : K.lookup f0 = some ⟨oc0, od0, .func (PySem.W.fnOf "is_integer" "is_integer" (defArgs s_p_is_integer) (defBody s_p_is_integer) (defScope s_p_is_integer) .none kV0 dc0 pm0 an0 cd0 ct0), sl0⟩) (c0 : PySem.W.codeIn K cd0 "is_integer" = true) (k0 : PySem.W.keepIn K (.ref f0) = true)
    {od1 an1 : Option Addr} {sl1 : Array (Option Value)} {oc1 kV1 dc1 pm1 cd1 ct1 : Value} (a1 : PySem.W.nsIn K mainGlobals "is_index" = some (some (.ref f1))) (l1 : K.lookup f1 = some ⟨oc1, od1, .func (PySem.W.fnOf "is_index" "is_index" (defArgs s_p_is_index) (defBody s_p_is_index) (defScope s_p_is_index) .none kV1 dc1 pm1 an1 cd1 ct1), sl1⟩) (c1 : PySem.W.codeIn K cd1 "is_index" = true) (k1 : PySem.W.keepIn K (.ref f1) = true)
    {od2 an2 : Option Addr} {sl2 : Array (Option Value)} {oc2 kV2 dc2 pm2 cd2 ct2 : Value} (a2 : PySem.W.nsIn K mainGlobals "is_tuple" = some (some (.ref f2))) (l2 : K.lookup f2 = some ⟨oc2, od2, .func (PySem.W.fnOf "is_tuple" "is_tuple" (defArgs s_p_is_tuple) (defBody s_p_is_tuple) (defScope s_p_is_tuple) .none kV2 dc2 pm2 an2 cd2 ct2), sl2⟩) (c2 : PySem.W.codeIn K cd2 "is_tuple" = true) (k2 : PySem.W.keepIn K (.ref f2) = true)
    {od3 an3 : Option Addr} {sl3 : Array (Option Value)} {oc3 kV3 dc3 pm3 cd3 ct3 : Value} (a3 : PySem.W.nsIn K mainGlobals "lies_in" = some (some (.ref f3))) (l3 : K.lookup f3 = some ⟨oc3, od3, .func (PySem.W.fnOf "lies_in" "lies_in" (defArgs s_p_lies_in) (defBody s_p_lies_in) (defScope s_p_lies_in) .none kV3 dc3 pm3 an3 cd3 ct3), sl3⟩) (c3 : PySem.W.codeIn K cd3 "lies_in" = true) (k3 : PySem.W.keepIn K (.ref f3) = true)
    {od4 an4 : Option Addr} {sl4 : Array (Option Value)} {oc4 kV4 dc4 pm4 cd4 ct4 : Value} (a4 : PySem.W.nsIn K mainGlobals "is_stand" = some (some (.ref f4))) (l4 : K.lookup f4 = some ⟨oc4, od4, .func (PySem.W.fnOf "is_stand" "is_stand" (defArgs s_p_is_stand) (defBody s_p_is_stand) (defScope s_p_is_stand) .none kV4 dc4 pm4 an4 cd4 ct4), sl4⟩) (c4 : PySem.W.codeIn K cd4 "is_stand" = true) (k4 : PySem.W.keepIn K (.ref f4) = true)
    {od5 an5 : Option Addr} {sl5 : Array (Option Value)} {oc5 kV5 dc5 pm5 cd5 ct5 : Value} (a5 : PySem.W.nsIn K mainGlobals "rest_of" = some (some (.ref f5))) (l5 : K.lookup f5 = some ⟨oc5, od5, .func (PySem.W.fnOf "rest_of" "rest_of" (defArgs s_p_rest_of) (defBody s_p_rest_of) (defScope s_p_rest_of) .none kV5 dc5 pm5 an5 cd5 ct5), sl5⟩) (c5 : PySem.W.codeIn K cd5 "rest_of" = true) (k5 : PySem.W.keepIn K (.ref f5) = true)
    {od6 an6 : Option Addr} {sl6 : Array (Option Value)} {oc6 kV6 dc6 pm6 cd6 ct6 : Value} (a6 : PySem.W.nsIn K mainGlobals "_comes_after" = some (some (.ref f6))) (l6 : K.lookup f6 = some ⟨oc6, od6, .func (PySem.W.fnOf "_comes_after" "_comes_after" (defArgs s_p__comes_after) (defBody s_p__comes_after) (defScope s_p__comes_after) .none kV6 dc6 pm6 an6 cd6 ct6), sl6⟩) (c6 : PySem.W.codeIn K cd6 "_comes_after" = true) (k6 : PySem.W.keepIn K (.ref f6) = true)
    {od7 an7 : Option Addr} {sl7 : Array (Option Value)} {oc7 kV7 dc7 pm7 cd7 ct7 : Value} (a7 : PySem.W.nsIn K mainGlobals "counting_row" = some (some (.ref f7))) (l7 : K.lookup f7 = some ⟨oc7, od7, .func (PySem.W.fnOf "counting_row" "counting_row" (defArgs s_p_counting_row) (defBody s_p_counting_row) (defScope s_p_counting_row) .none kV7 dc7 pm7 an7 cd7 ct7), sl7⟩) (c7 : PySem.W.codeIn K cd7 "counting_row" = true) (k7 : PySem.W.keepIn K (.ref f7) = true)
    {od8 an8 : Option Addr} {sl8 : Array (Option Value)} {oc8 kV8 dc8 pm8 cd8 ct8 : Value} (a8 : PySem.W.nsIn K mainGlobals "_deed_done" = some (some (.ref f8))) (l8 : K.lookup f8 = some ⟨oc8, od8, .func (PySem.W.fnOf "_deed_done" "_deed_done" (defArgs s_p__deed_done) (defBody s_p__deed_done) (defScope s_p__deed_done) .none kV8 dc8 pm8 an8 cd8 ct8), sl8⟩) (c8 : PySem.W.codeIn K cd8 "_deed_done" = true) (k8 : PySem.W.keepIn K (.ref f8) = true)
    {od9 an9 : Option Addr} {sl9 : Array (Option Value)} {oc9 kV9 dc9 pm9 cd9 ct9 : Value} (a9 : PySem.W.nsIn K mainGlobals "step_from" = some (some (.ref f9))) (l9 : K.lookup f9 = some ⟨oc9, od9, .func (PySem.W.fnOf "step_from" "step_from" (defArgs s_p_step_from) (defBody s_p_step_from) (defScope s_p_step_from) .none kV9 dc9 pm9 an9 cd9 ct9), sl9⟩) (c9 : PySem.W.codeIn K cd9 "step_from" = true) (k9 : PySem.W.keepIn K (.ref f9) = true)
    {od10 an10 : Option Addr} {sl10 : Array (Option Value)} {oc10 kV10 dc10 pm10 cd10 ct10 : Value} (a10 : PySem.W.nsIn K mainGlobals "_stand_at" = some (some (.ref f10))) (l10 : K.lookup f10 = some ⟨oc10, od10, .func (PySem.W.fnOf "_stand_at" "_stand_at" (defArgs s_p__stand_at) (defBody s_p__stand_at) (defScope s_p__stand_at) .none kV10 dc10 pm10 an10 cd10 ct10), sl10⟩) (c10 : PySem.W.codeIn K cd10 "_stand_at" = true) (k10 : PySem.W.keepIn K (.ref f10) = true)
    {od11 an11 : Option Addr} {sl11 : Array (Option Value)} {oc11 kV11 dc11 pm11 cd11 ct11 : Value} (a11 : PySem.W.nsIn K mainGlobals "hear" = some (some (.ref f11))) (l11 : K.lookup f11 = some ⟨oc11, od11, .func (PySem.W.fnOf "hear" "hear" (defArgs s_p_hear) (defBody s_p_hear) (defScope s_p_hear) .none kV11 dc11 pm11 an11 cd11 ct11), sl11⟩) (c11 : PySem.W.codeIn K cd11 "hear" = true) (k11 : PySem.W.keepIn K (.ref f11) = true)
    {kd12 : Addr} {kt12_0 : Tok}
    {od12 an12 : Option Addr} {sl12 : Array (Option Value)} {oc12 dc12 pm12 cd12 ct12 : Value} (a12 : PySem.W.nsIn K mainGlobals "answers" = some (some (.ref f12))) (l12 : K.lookup f12 = some ⟨oc12, od12, .func (PySem.W.fnOf "answers" "answers" (defArgs s_p_answers) (defBody s_p_answers) (defScope s_p_answers) .none (.ref kd12) dc12 pm12 an12 cd12 ct12), sl12⟩) (c12 : PySem.W.codeIn K cd12 "answers" = true) (k12 : PySem.W.keepIn K (.ref f12) = true) (w12_0 : PySem.W.nsIn K kd12 "last" = some (some (.int 0 kt12_0)))
    {kd13 : Addr} {kt13_0 : Tok}
    {od13 an13 : Option Addr} {sl13 : Array (Option Value)} {oc13 dc13 pm13 cd13 ct13 : Value} (a13 : PySem.W.nsIn K mainGlobals "stand_after" = some (some (.ref f13))) (l13 : K.lookup f13 = some ⟨oc13, od13, .func (PySem.W.fnOf "stand_after" "stand_after" (defArgs s_p_stand_after) (defBody s_p_stand_after) (defScope s_p_stand_after) .none (.ref kd13) dc13 pm13 an13 cd13 ct13), sl13⟩) (c13 : PySem.W.codeIn K cd13 "stand_after" = true) (k13 : PySem.W.keepIn K (.ref f13) = true) (w13_0 : PySem.W.nsIn K kd13 "last" = some (some (.int 0 kt13_0)))
    {od14 an14 : Option Addr} {sl14 : Array (Option Value)} {oc14 kV14 dc14 pm14 cd14 ct14 : Value} (a14 : PySem.W.nsIn K mainGlobals "_law_spring" = some (some (.ref f14))) (l14 : K.lookup f14 = some ⟨oc14, od14, .func (PySem.W.fnOf "_law_spring" "_law_spring" (defArgs s_spring) (defBody s_spring) (defScope s_spring) .none kV14 dc14 pm14 an14 cd14 ct14), sl14⟩) (c14 : PySem.W.codeIn K cd14 "_law_spring" = true) (k14 : PySem.W.keepIn K (.ref f14) = true)
    {od15 an15 : Option Addr} {sl15 : Array (Option Value)} {oc15 kV15 dc15 pm15 cd15 ct15 : Value} (a15 : PySem.W.nsIn K mainGlobals "_law_dip" = some (some (.ref f15))) (l15 : K.lookup f15 = some ⟨oc15, od15, .func (PySem.W.fnOf "_law_dip" "_law_dip" (defArgs s_dip) (defBody s_dip) (defScope s_dip) .none kV15 dc15 pm15 an15 cd15 ct15), sl15⟩) (c15 : PySem.W.codeIn K cd15 "_law_dip" = true) (k15 : PySem.W.keepIn K (.ref f15) = true)
    {od16 an16 : Option Addr} {sl16 : Array (Option Value)} {oc16 kV16 dc16 pm16 cd16 ct16 : Value} (a16 : PySem.W.nsIn K mainGlobals "_law_pick" = some (some (.ref f16))) (l16 : K.lookup f16 = some ⟨oc16, od16, .func (PySem.W.fnOf "_law_pick" "_law_pick" (defArgs s_pick) (defBody s_pick) (defScope s_pick) .none kV16 dc16 pm16 an16 cd16 ct16), sl16⟩) (c16 : PySem.W.codeIn K cd16 "_law_pick" = true) (k16 : PySem.W.keepIn K (.ref f16) = true)
    {od17 an17 : Option Addr} {sl17 : Array (Option Value)} {oc17 kV17 dc17 pm17 cd17 ct17 : Value} (a17 : PySem.W.nsIn K mainGlobals "_law_range" = some (some (.ref f17))) (l17 : K.lookup f17 = some ⟨oc17, od17, .func (PySem.W.fnOf "_law_range" "_law_range" (defArgs s_range) (defBody s_range) (defScope s_range) .none kV17 dc17 pm17 an17 cd17 ct17), sl17⟩) (c17 : PySem.W.codeIn K cd17 "_law_range" = true) (k17 : PySem.W.keepIn K (.ref f17) = true)
    {od18 an18 : Option Addr} {sl18 : Array (Option Value)} {oc18 kV18 dc18 pm18 cd18 ct18 : Value} (a18 : PySem.W.nsIn K mainGlobals "_law_row" = some (some (.ref f18))) (l18 : K.lookup f18 = some ⟨oc18, od18, .func (PySem.W.fnOf "_law_row" "_law_row" (defArgs s_row) (defBody s_row) (defScope s_row) .none kV18 dc18 pm18 an18 cd18 ct18), sl18⟩) (c18 : PySem.W.codeIn K cd18 "_law_row" = true) (k18 : PySem.W.keepIn K (.ref f18) = true)
    {od19 an19 : Option Addr} {sl19 : Array (Option Value)} {oc19 kV19 dc19 pm19 cd19 ct19 : Value} (a19 : PySem.W.nsIn K mainGlobals "_law_window" = some (some (.ref f19))) (l19 : K.lookup f19 = some ⟨oc19, od19, .func (PySem.W.fnOf "_law_window" "_law_window" (defArgs s_window) (defBody s_window) (defScope s_window) .none kV19 dc19 pm19 an19 cd19 ct19), sl19⟩) (c19 : PySem.W.codeIn K cd19 "_law_window" = true) (k19 : PySem.W.keepIn K (.ref f19) = true)
    {od20 an20 : Option Addr} {sl20 : Array (Option Value)} {oc20 kV20 dc20 pm20 cd20 ct20 : Value} (a20 : PySem.W.nsIn K mainGlobals "_law_paired" = some (some (.ref f20))) (l20 : K.lookup f20 = some ⟨oc20, od20, .func (PySem.W.fnOf "_law_paired" "_law_paired" (defArgs s_paired) (defBody s_paired) (defScope s_paired) .none kV20 dc20 pm20 an20 cd20 ct20), sl20⟩) (c20 : PySem.W.codeIn K cd20 "_law_paired" = true) (k20 : PySem.W.keepIn K (.ref f20) = true)
    {od21 an21 : Option Addr} {sl21 : Array (Option Value)} {oc21 kV21 dc21 pm21 cd21 ct21 : Value} (a21 : PySem.W.nsIn K mainGlobals "_law_receiver" = some (some (.ref f21))) (l21 : K.lookup f21 = some ⟨oc21, od21, .func (PySem.W.fnOf "_law_receiver" "_law_receiver" (defArgs s_receiver) (defBody s_receiver) (defScope s_receiver) .none kV21 dc21 pm21 an21 cd21 ct21), sl21⟩) (c21 : PySem.W.codeIn K cd21 "_law_receiver" = true) (k21 : PySem.W.keepIn K (.ref f21) = true)
    {od22 an22 : Option Addr} {sl22 : Array (Option Value)} {oc22 kV22 dc22 pm22 cd22 ct22 : Value} (a22 : PySem.W.nsIn K mainGlobals "_law_lies" = some (some (.ref f22))) (l22 : K.lookup f22 = some ⟨oc22, od22, .func (PySem.W.fnOf "_law_lies" "_law_lies" (defArgs s_lies) (defBody s_lies) (defScope s_lies) .none kV22 dc22 pm22 an22 cd22 ct22), sl22⟩) (c22 : PySem.W.codeIn K cd22 "_law_lies" = true) (k22 : PySem.W.keepIn K (.ref f22) = true)
    {od23 an23 : Option Addr} {sl23 : Array (Option Value)} {oc23 kV23 dc23 pm23 cd23 ct23 : Value} (a23 : PySem.W.nsIn K mainGlobals "_law_counting" = some (some (.ref f23))) (l23 : K.lookup f23 = some ⟨oc23, od23, .func (PySem.W.fnOf "_law_counting" "_law_counting" (defArgs s_counting) (defBody s_counting) (defScope s_counting) .none kV23 dc23 pm23 an23 cd23 ct23), sl23⟩) (c23 : PySem.W.codeIn K cd23 "_law_counting" = true) (k23 : PySem.W.keepIn K (.ref f23) = true)
    {od24 an24 : Option Addr} {sl24 : Array (Option Value)} {oc24 kV24 dc24 pm24 cd24 ct24 : Value} (a24 : PySem.W.nsIn K mainGlobals "_law_step" = some (some (.ref f24))) (l24 : K.lookup f24 = some ⟨oc24, od24, .func (PySem.W.fnOf "_law_step" "_law_step" (defArgs s_step) (defBody s_step) (defScope s_step) .none kV24 dc24 pm24 an24 cd24 ct24), sl24⟩) (c24 : PySem.W.codeIn K cd24 "_law_step" = true) (k24 : PySem.W.keepIn K (.ref f24) = true)
    {od25 an25 : Option Addr} {sl25 : Array (Option Value)} {oc25 kV25 dc25 pm25 cd25 ct25 : Value} (a25 : PySem.W.nsIn K mainGlobals "_law_rest" = some (some (.ref f25))) (l25 : K.lookup f25 = some ⟨oc25, od25, .func (PySem.W.fnOf "_law_rest" "_law_rest" (defArgs s_rest) (defBody s_rest) (defScope s_rest) .none kV25 dc25 pm25 an25 cd25 ct25), sl25⟩) (c25 : PySem.W.codeIn K cd25 "_law_rest" = true) (k25 : PySem.W.keepIn K (.ref f25) = true)
    {od26 an26 : Option Addr} {sl26 : Array (Option Value)} {oc26 kV26 dc26 pm26 cd26 ct26 : Value} (a26 : PySem.W.nsIn K mainGlobals "_law_heard" = some (some (.ref f26))) (l26 : K.lookup f26 = some ⟨oc26, od26, .func (PySem.W.fnOf "_law_heard" "_law_heard" (defArgs s_heard) (defBody s_heard) (defScope s_heard) .none kV26 dc26 pm26 an26 cd26 ct26), sl26⟩) (c26 : PySem.W.codeIn K cd26 "_law_heard" = true) (k26 : PySem.W.keepIn K (.ref f26) = true)
    {od27 an27 : Option Addr} {sl27 : Array (Option Value)} {oc27 kV27 dc27 pm27 cd27 ct27 : Value} (a27 : PySem.W.nsIn K mainGlobals "_law_numbers" = some (some (.ref f27))) (l27 : K.lookup f27 = some ⟨oc27, od27, .func (PySem.W.fnOf "_law_numbers" "_law_numbers" (defArgs s_numbers) (defBody s_numbers) (defScope s_numbers) .none kV27 dc27 pm27 an27 cd27 ct27), sl27⟩) (c27 : PySem.W.codeIn K cd27 "_law_numbers" = true) (k27 : PySem.W.keepIn K (.ref f27) = true)
    {od28 an28 : Option Addr} {sl28 : Array (Option Value)} {oc28 kV28 dc28 pm28 cd28 ct28 : Value} (a28 : PySem.W.nsIn K mainGlobals "_law_last" = some (some (.ref f28))) (l28 : K.lookup f28 = some ⟨oc28, od28, .func (PySem.W.fnOf "_law_last" "_law_last" (defArgs s_last) (defBody s_last) (defScope s_last) .none kV28 dc28 pm28 an28 cd28 ct28), sl28⟩) (c28 : PySem.W.codeIn K cd28 "_law_last" = true) (k28 : PySem.W.keepIn K (.ref f28) = true)
    {od29 an29 : Option Addr} {sl29 : Array (Option Value)} {oc29 kV29 dc29 pm29 cd29 ct29 : Value} (a29 : PySem.W.nsIn K mainGlobals "_law_alike" = some (some (.ref f29))) (l29 : K.lookup f29 = some ⟨oc29, od29, .func (PySem.W.fnOf "_law_alike" "_law_alike" (defArgs s_alike) (defBody s_alike) (defScope s_alike) .none kV29 dc29 pm29 an29 cd29 ct29), sl29⟩) (c29 : PySem.W.codeIn K cd29 "_law_alike" = true) (k29 : PySem.W.keepIn K (.ref f29) = true)
    {od30 an30 : Option Addr} {sl30 : Array (Option Value)} {oc30 kV30 dc30 pm30 cd30 ct30 : Value} (a30 : PySem.W.nsIn K mainGlobals "law" = some (some (.ref f30))) (l30 : K.lookup f30 = some ⟨oc30, od30, .func (PySem.W.fnOf "law" "law" (defArgs s_law) (defBody s_law) (defScope s_law) .none kV30 dc30 pm30 an30 cd30 ct30), sl30⟩) (c30 : PySem.W.codeIn K cd30 "law" = true) (k30 : PySem.W.keepIn K (.ref f30) = true)
    {t0 : Tok} (g0 : PySem.W.nsIn K mainGlobals "MAX_BOUND" = some (some (.int 6 t0)))
    (z0 : PySem.W.nsIn K mainGlobals "len" = some none)
    (z1 : PySem.W.nsIn K mainGlobals "abs" = some none)
    (z2 : PySem.W.nsIn K mainGlobals "min" = some none)
    (z3 : PySem.W.nsIn K mainGlobals "max" = some none)
    (z4 : PySem.W.nsIn K mainGlobals "repr" = some none)
    (z5 : PySem.W.nsIn K mainGlobals "int" = some none)
    (z6 : PySem.W.nsIn K mainGlobals "tuple" = some none)
    (z7 : PySem.W.nsIn K mainGlobals "list" = some none)
    (z8 : PySem.W.nsIn K mainGlobals "isinstance" = some none)
    (z9 : PySem.W.nsIn K mainGlobals "bool" = some none)
    (z10 : PySem.W.nsIn K mainGlobals "str" = some none)
    (z11 : PySem.W.nsIn K mainGlobals "dict" = some none)
    (z12 : PySem.W.nsIn K mainGlobals "range" = some none)
    (z13 : PySem.W.nsIn K mainGlobals "enumerate" = some none)
    :
    ∃ fd : FuncData, (∀ (s : Shared) (v : Value), BindsTo s fd ⟨[v], []⟩ [("_law_script", v)]) ∧ ∀ base : Heap, K.In base → base.Ns mainGlobals mg → FnG l.prog w K mg base 36 fa fd ["_law_script"] (lawC 63) := by
  have e := hfa.symm.trans (PySem.W.mg_of X G a30)
  cases e
  have F0 := fun_mk (st := s_p_is_integer) l0 c0 k0
  have b0 := BindK.of <| F0.binds (ps := la_p_is_integer) fun _ _ _ _ _ _ us hl => match us, hl with | [_], _ => rfl
  have F1 := fun_mk (st := s_p_is_index) l1 c1 k1
  have b1 := BindK.of <| F1.binds (ps := la_p_is_index) fun _ _ _ _ _ _ us hl => match us, hl with | [_, _], _ => rfl
  have F2 := fun_mk (st := s_p_is_tuple) l2 c2 k2
  have b2 := BindK.of <| F2.binds (ps := la_p_is_tuple) fun _ _ _ _ _ _ us hl => match us, hl with | [_, _, _], _ => rfl
  have F3 := fun_mk (st := s_p_lies_in) l3 c3 k3
  have b3 := BindK.of <| F3.binds (ps := la_p_lies_in) fun _ _ _ _ _ _ us hl => match us, hl with | [_, _], _ => rfl
  have F4 := fun_mk (st := s_p_is_stand) l4 c4 k4
  have b4 := BindK.of <| F4.binds (ps := la_p_is_stand) fun _ _ _ _ _ _ us hl => match us, hl with | [_, _], _ => rfl
  have F5 := fun_mk (st := s_p_rest_of) l5 c5 k5
  have b5 := BindK.of <| F5.binds (ps := la_p_rest_of) fun _ _ _ _ _ _ us hl => match us, hl with | [_], _ => rfl
  have F6 := fun_mk (st := s_p__comes_after) l6 c6 k6
  have b6 := BindK.of <| F6.binds (ps := la_p__comes_after) fun _ _ _ _ _ _ us hl => match us, hl with | [_, _, _], _ => rfl
  have F7 := fun_mk (st := s_p_counting_row) l7 c7 k7
  have b7 := BindK.of <| F7.binds (ps := la_p_counting_row) fun _ _ _ _ _ _ us hl => match us, hl with | [_, _, _], _ => rfl
  have F8 := fun_mk (st := s_p__deed_done) l8 c8 k8
  have b8 := BindK.of <| F8.binds (ps := la_p__deed_done) fun _ _ _ _ _ _ us hl => match us, hl with | [_, _, _], _ => rfl
  have F9 := fun_mk (st := s_p_step_from) l9 c9 k9
  have b9 := BindK.of <| F9.binds (ps := la_p_step_from) fun _ _ _ _ _ _ us hl => match us, hl with | [_, _, _], _ => rfl
  have F10 := fun_mk (st := s_p__stand_at) l10 c10 k10
  have b10 := BindK.of <| F10.binds (ps := la_p__stand_at) fun _ _ _ _ _ _ us hl => match us, hl with | [_, _], _ => rfl
  have F11 := fun_mk (st := s_p_hear) l11 c11 k11
  have b11 := BindK.of <| F11.binds (ps := la_p_hear) fun _ _ _ _ _ _ us hl => match us, hl with | [_, _, _], _ => rfl
  have F12 := fun_mk (st := s_p_answers) l12 c12 k12
  have FD12 : L2.FunD K "answers" "answers" (defArgs s_p_answers) (defBody s_p_answers) (defScope s_p_answers) [] [("last", V.int 0)] f12 (PySem.W.fnOf "answers" "answers" (defArgs s_p_answers) (defBody s_p_answers) (defScope s_p_answers) .none (.ref kd12) dc12 pm12 an12 cd12 ct12) := ⟨⟨_, _, _, _, _, _, _, _, _, _, rfl, l12, c12, .inl ⟨rfl, rfl⟩, .inr ⟨kd12, rfl, fun q hq => by
    simp only [List.mem_cons, List.not_mem_nil, or_false] at hq
    rcases hq with rfl
    exact ⟨_, w12_0, ⟨_, rfl⟩⟩⟩⟩, k12⟩
  have b12 : BindK K (PySem.W.fnOf "answers" "answers" (defArgs s_p_answers) (defBody s_p_answers) (defScope s_p_answers) .none (.ref kd12) dc12 pm12 an12 cd12 ct12) la_p_answers [("last", .int 0)] := ⟨FD12.binds0 (ps := la_p_answers) 2 (by simp) rfl (fun D doc pm an cdv ct us ks hu hk => match us, hu, ks, hk with | [_, _], _, [_], _ => ⟨_, _, _, _, _, _, rfl, rfl, rfl⟩), fun n e => by
    cases e
    obtain ⟨mv, q⟩ := FD12.kbinds0 (ps := la_p_answers) 2 ["last"] [] (fun us _ ws => us ++ ws) (by simp) (fun q h => by cases h) (fun r1 _ r2 => r1.append r2) (fun D doc pm an cdv ct us mv ws hu hm hw => match us, hu, mv, hm, ws, hw with | [_, _], _, [], _, [_], _ => rfl)
    exact q⟩
  have F13 := fun_mk (st := s_p_stand_after) l13 c13 k13
  have FD13 : L2.FunD K "stand_after" "stand_after" (defArgs s_p_stand_after) (defBody s_p_stand_after) (defScope s_p_stand_after) [] [("last", V.int 0)] f13 (PySem.W.fnOf "stand_after" "stand_after" (defArgs s_p_stand_after) (defBody s_p_stand_after) (defScope s_p_stand_after) .none (.ref kd13) dc13 pm13 an13 cd13 ct13) := ⟨⟨_, _, _, _, _, _, _, _, _, _, rfl, l13, c13, .inl ⟨rfl, rfl⟩, .inr ⟨kd13, rfl, fun q hq => by
    simp only [List.mem_cons, List.not_mem_nil, or_false] at hq
    rcases hq with rfl
    exact ⟨_, w13_0, ⟨_, rfl⟩⟩⟩⟩, k13⟩
  have b13 : BindK K (PySem.W.fnOf "stand_after" "stand_after" (defArgs s_p_stand_after) (defBody s_p_stand_after) (defScope s_p_stand_after) .none (.ref kd13) dc13 pm13 an13 cd13 ct13) la_p_stand_after [("last", .int 0)] := ⟨FD13.binds0 (ps := la_p_stand_after) 2 (by simp) rfl (fun D doc pm an cdv ct us ks hu hk => match us, hu, ks, hk with | [_, _], _, [_], _ => ⟨_, _, _, _, _, _, rfl, rfl, rfl⟩), fun n e => by
    cases e
    obtain ⟨mv, q⟩ := FD13.kbinds0 (ps := la_p_stand_after) 2 ["last"] [] (fun us _ ws => us ++ ws) (by simp) (fun q h => by cases h) (fun r1 _ r2 => r1.append r2) (fun D doc pm an cdv ct us mv ws hu hm hw => match us, hu, mv, hm, ws, hw with | [_, _], _, [], _, [_], _ => rfl)
    exact q⟩
  have F14 := fun_mk (st := s_spring) l14 c14 k14
  have b14 := BindK.of <| F14.binds (ps := la_spring) fun _ _ _ _ _ _ us hl => match us, hl with | [_], _ => rfl
  have F15 := fun_mk (st := s_dip) l15 c15 k15
  have b15 := BindK.of <| F15.binds (ps := la_dip) fun _ _ _ _ _ _ us hl => match us, hl with | [_, _], _ => rfl
  have F16 := fun_mk (st := s_pick) l16 c16 k16
  have b16 := BindK.of <| F16.binds (ps := la_pick) fun _ _ _ _ _ _ us hl => match us, hl with | [_, _], _ => rfl
  have F17 := fun_mk (st := s_range) l17 c17 k17
  have b17 := BindK.of <| F17.binds (ps := la_range) fun _ _ _ _ _ _ us hl => match us, hl with | [_], _ => rfl
  have F18 := fun_mk (st := s_row) l18 c18 k18
  have b18 := BindK.of <| F18.binds (ps := la_row) fun _ _ _ _ _ _ us hl => match us, hl with | [_, _], _ => rfl
  have F19 := fun_mk (st := s_window) l19 c19 k19
  have b19 := BindK.of <| F19.binds (ps := la_window) fun _ _ _ _ _ _ us hl => match us, hl with | [_], _ => rfl
  have F20 := fun_mk (st := s_paired) l20 c20 k20
  have b20 := BindK.of <| F20.binds (ps := la_paired) fun _ _ _ _ _ _ us hl => match us, hl with | [_, _, _], _ => rfl
  have F21 := fun_mk (st := s_receiver) l21 c21 k21
  have b21 := BindK.of <| F21.binds (ps := la_receiver) fun _ _ _ _ _ _ us hl => match us, hl with | [_, _, _], _ => rfl
  have F22 := fun_mk (st := s_lies) l22 c22 k22
  have b22 := BindK.of <| F22.binds (ps := la_lies) fun _ _ _ _ _ _ us hl => match us, hl with | [_, _], _ => rfl
  have F23 := fun_mk (st := s_counting) l23 c23 k23
  have b23 := BindK.of <| F23.binds (ps := la_counting) fun _ _ _ _ _ _ us hl => match us, hl with | [_, _, _], _ => rfl
  have F24 := fun_mk (st := s_step) l24 c24 k24
  have b24 := BindK.of <| F24.binds (ps := la_step) fun _ _ _ _ _ _ us hl => match us, hl with | [_, _, _], _ => rfl
  have F25 := fun_mk (st := s_rest) l25 c25 k25
  have b25 := BindK.of <| F25.binds (ps := la_rest) fun _ _ _ _ _ _ us hl => match us, hl with | [_], _ => rfl
  have F26 := fun_mk (st := s_heard) l26 c26 k26
  have b26 := BindK.of <| F26.binds (ps := la_heard) fun _ _ _ _ _ _ us hl => match us, hl with | [_, _, _], _ => rfl
  have F27 := fun_mk (st := s_numbers) l27 c27 k27
  have b27 := BindK.of <| F27.binds (ps := la_numbers) fun _ _ _ _ _ _ us hl => match us, hl with | [_, _, _, _], _ => rfl
  have F28 := fun_mk (st := s_last) l28 c28 k28
  have b28 := BindK.of <| F28.binds (ps := la_last) fun _ _ _ _ _ _ us hl => match us, hl with | [_], _ => rfl
  have F29 := fun_mk (st := s_alike) l29 c29 k29
  have b29 := BindK.of <| F29.binds (ps := la_alike) fun _ _ _ _ _ _ us hl => match us, hl with | [_, _], _ => rfl
  have F30 := fun_mk (st := s_law) l30 c30 k30
  have b30 := BindK.of <| F30.binds (ps := la_law) fun _ _ _ _ _ _ us hl => match us, hl with | [_], _ => rfl
  have T : TopOk l.prog w K mg defs gs gl (fun i => [f0, f1, f2, f3, f4, f5, f6, f7, f8, f9, f10, f11, f12, f13, f14, f15, f16, f17, f18, f19, f20, f21, f22, f23, f24, f25, f26, f27, f28, f29, fa].getD i 0) (fun i => [PySem.W.fnOf "is_integer" "is_integer" (defArgs s_p_is_integer) (defBody s_p_is_integer) (defScope s_p_is_integer) .none kV0 dc0 pm0 an0 cd0 ct0, PySem.W.fnOf "is_index" "is_index" (defArgs s_p_is_index) (defBody s_p_is_index) (defScope s_p_is_index) .none kV1 dc1 pm1 an1 cd1 ct1, PySem.W.fnOf "is_tuple" "is_tuple" (defArgs s_p_is_tuple) (defBody s_p_is_tuple) (defScope s_p_is_tuple) .none kV2 dc2 pm2 an2 cd2 ct2, PySem.W.fnOf "lies_in" "lies_in" (defArgs s_p_lies_in) (defBody s_p_lies_in) (defScope s_p_lies_in) .none kV3 dc3 pm3 an3 cd3 ct3, PySem.W.fnOf "is_stand" "is_stand" (defArgs s_p_is_stand) (defBody s_p_is_stand) (defScope s_p_is_stand) .none kV4 dc4 pm4 an4 cd4 ct4, PySem.W.fnOf "rest_of" "rest_of" (defArgs s_p_rest_of) (defBody s_p_rest_of) (defScope s_p_rest_of) .none kV5 dc5 pm5 an5 cd5 ct5, PySem.W.fnOf "_comes_after" "_comes_after" (defArgs s_p__comes_after) (defBody s_p__comes_after) (defScope s_p__comes_after) .none kV6 dc6 pm6 an6 cd6 ct6, PySem.W.fnOf "counting_row" "counting_row" (defArgs s_p_counting_row) (defBody s_p_counting_row) (defScope s_p_counting_row) .none kV7 dc7 pm7 an7 cd7 ct7, PySem.W.fnOf "_deed_done" "_deed_done" (defArgs s_p__deed_done) (defBody s_p__deed_done) (defScope s_p__deed_done) .none kV8 dc8 pm8 an8 cd8 ct8, PySem.W.fnOf "step_from" "step_from" (defArgs s_p_step_from) (defBody s_p_step_from) (defScope s_p_step_from) .none kV9 dc9 pm9 an9 cd9 ct9, PySem.W.fnOf "_stand_at" "_stand_at" (defArgs s_p__stand_at) (defBody s_p__stand_at) (defScope s_p__stand_at) .none kV10 dc10 pm10 an10 cd10 ct10, PySem.W.fnOf "hear" "hear" (defArgs s_p_hear) (defBody s_p_hear) (defScope s_p_hear) .none kV11 dc11 pm11 an11 cd11 ct11, PySem.W.fnOf "answers" "answers" (defArgs s_p_answers) (defBody s_p_answers) (defScope s_p_answers) .none (.ref kd12) dc12 pm12 an12 cd12 ct12, PySem.W.fnOf "stand_after" "stand_after" (defArgs s_p_stand_after) (defBody s_p_stand_after) (defScope s_p_stand_after) .none (.ref kd13) dc13 pm13 an13 cd13 ct13, PySem.W.fnOf "_law_spring" "_law_spring" (defArgs s_spring) (defBody s_spring) (defScope s_spring) .none kV14 dc14 pm14 an14 cd14 ct14, PySem.W.fnOf "_law_dip" "_law_dip" (defArgs s_dip) (defBody s_dip) (defScope s_dip) .none kV15 dc15 pm15 an15 cd15 ct15, PySem.W.fnOf "_law_pick" "_law_pick" (defArgs s_pick) (defBody s_pick) (defScope s_pick) .none kV16 dc16 pm16 an16 cd16 ct16, PySem.W.fnOf "_law_range" "_law_range" (defArgs s_range) (defBody s_range) (defScope s_range) .none kV17 dc17 pm17 an17 cd17 ct17, PySem.W.fnOf "_law_row" "_law_row" (defArgs s_row) (defBody s_row) (defScope s_row) .none kV18 dc18 pm18 an18 cd18 ct18, PySem.W.fnOf "_law_window" "_law_window" (defArgs s_window) (defBody s_window) (defScope s_window) .none kV19 dc19 pm19 an19 cd19 ct19, PySem.W.fnOf "_law_paired" "_law_paired" (defArgs s_paired) (defBody s_paired) (defScope s_paired) .none kV20 dc20 pm20 an20 cd20 ct20, PySem.W.fnOf "_law_receiver" "_law_receiver" (defArgs s_receiver) (defBody s_receiver) (defScope s_receiver) .none kV21 dc21 pm21 an21 cd21 ct21, PySem.W.fnOf "_law_lies" "_law_lies" (defArgs s_lies) (defBody s_lies) (defScope s_lies) .none kV22 dc22 pm22 an22 cd22 ct22, PySem.W.fnOf "_law_counting" "_law_counting" (defArgs s_counting) (defBody s_counting) (defScope s_counting) .none kV23 dc23 pm23 an23 cd23 ct23, PySem.W.fnOf "_law_step" "_law_step" (defArgs s_step) (defBody s_step) (defScope s_step) .none kV24 dc24 pm24 an24 cd24 ct24, PySem.W.fnOf "_law_rest" "_law_rest" (defArgs s_rest) (defBody s_rest) (defScope s_rest) .none kV25 dc25 pm25 an25 cd25 ct25, PySem.W.fnOf "_law_heard" "_law_heard" (defArgs s_heard) (defBody s_heard) (defScope s_heard) .none kV26 dc26 pm26 an26 cd26 ct26, PySem.W.fnOf "_law_numbers" "_law_numbers" (defArgs s_numbers) (defBody s_numbers) (defScope s_numbers) .none kV27 dc27 pm27 an27 cd27 ct27, PySem.W.fnOf "_law_last" "_law_last" (defArgs s_last) (defBody s_last) (defScope s_last) .none kV28 dc28 pm28 an28 cd28 ct28, PySem.W.fnOf "_law_alike" "_law_alike" (defArgs s_alike) (defBody s_alike) (defScope s_alike) .none kV29 dc29 pm29 an29 cd29 ct29, PySem.W.fnOf "law" "law" (defArgs s_law) (defBody s_law) (defScope s_law) .none kV30 dc30 pm30 an30 cd30 ct30].getD i (PySem.W.fnOf "law" "law" (defArgs s_law) (defBody s_law) (defScope s_law) .none kV30 dc30 pm30 an30 cd30 ct30)) := by
    refine ⟨fun i d hd => ?_, fun i x hx => ?_, fun x hx => ?_⟩
    · match i, hd with
      | 0, hd => exact (Option.some.inj (show some d0 = some d from hd)) ▸ ⟨F0, PySem.W.mg_of X G a0, b0⟩
      | 1, hd => exact (Option.some.inj (show some d1 = some d from hd)) ▸ ⟨F1, PySem.W.mg_of X G a1, b1⟩
      | 2, hd => exact (Option.some.inj (show some d2 = some d from hd)) ▸ ⟨F2, PySem.W.mg_of X G a2, b2⟩
      | 3, hd => exact (Option.some.inj (show some d3 = some d from hd)) ▸ ⟨F3, PySem.W.mg_of X G a3, b3⟩
      | 4, hd => exact (Option.some.inj (show some d4 = some d from hd)) ▸ ⟨F4, PySem.W.mg_of X G a4, b4⟩
      | 5, hd => exact (Option.some.inj (show some d5 = some d from hd)) ▸ ⟨F5, PySem.W.mg_of X G a5, b5⟩
      | 6, hd => exact (Option.some.inj (show some d6 = some d from hd)) ▸ ⟨F6, PySem.W.mg_of X G a6, b6⟩
      | 7, hd => exact (Option.some.inj (show some d7 = some d from hd)) ▸ ⟨F7, PySem.W.mg_of X G a7, b7⟩
      | 8, hd => exact (Option.some.inj (show some d8 = some d from hd)) ▸ ⟨F8, PySem.W.mg_of X G a8, b8⟩
      | 9, hd => exact (Option.some.inj (show some d9 = some d from hd)) ▸ ⟨F9, PySem.W.mg_of X G a9, b9⟩
      | 10, hd => exact (Option.some.inj (show some d10 = some d from hd)) ▸ ⟨F10, PySem.W.mg_of X G a10, b10⟩
      | 11, hd => exact (Option.some.inj (show some d11 = some d from hd)) ▸ ⟨F11, PySem.W.mg_of X G a11, b11⟩
      | 12, hd => exact (Option.some.inj (show some d12 = some d from hd)) ▸ ⟨F12, PySem.W.mg_of X G a12, b12⟩
      | 13, hd => exact (Option.some.inj (show some d13 = some d from hd)) ▸ ⟨F13, PySem.W.mg_of X G a13, b13⟩
      | 14, hd => exact (Option.some.inj (show some d14 = some d from hd)) ▸ ⟨F14, PySem.W.mg_of X G a14, b14⟩
      | 15, hd => exact (Option.some.inj (show some d15 = some d from hd)) ▸ ⟨F15, PySem.W.mg_of X G a15, b15⟩
      | 16, hd => exact (Option.some.inj (show some d16 = some d from hd)) ▸ ⟨F16, PySem.W.mg_of X G a16, b16⟩
      | 17, hd => exact (Option.some.inj (show some d17 = some d from hd)) ▸ ⟨F17, PySem.W.mg_of X G a17, b17⟩
      | 18, hd => exact (Option.some.inj (show some d18 = some d from hd)) ▸ ⟨F18, PySem.W.mg_of X G a18, b18⟩
      | 19, hd => exact (Option.some.inj (show some d19 = some d from hd)) ▸ ⟨F19, PySem.W.mg_of X G a19, b19⟩
      | 20, hd => exact (Option.some.inj (show some d20 = some d from hd)) ▸ ⟨F20, PySem.W.mg_of X G a20, b20⟩
      | 21, hd => exact (Option.some.inj (show some d21 = some d from hd)) ▸ ⟨F21, PySem.W.mg_of X G a21, b21⟩
      | 22, hd => exact (Option.some.inj (show some d22 = some d from hd)) ▸ ⟨F22, PySem.W.mg_of X G a22, b22⟩
      | 23, hd => exact (Option.some.inj (show some d23 = some d from hd)) ▸ ⟨F23, PySem.W.mg_of X G a23, b23⟩
      | 24, hd => exact (Option.some.inj (show some d24 = some d from hd)) ▸ ⟨F24, PySem.W.mg_of X G a24, b24⟩
      | 25, hd => exact (Option.some.inj (show some d25 = some d from hd)) ▸ ⟨F25, PySem.W.mg_of X G a25, b25⟩
      | 26, hd => exact (Option.some.inj (show some d26 = some d from hd)) ▸ ⟨F26, PySem.W.mg_of X G a26, b26⟩
      | 27, hd => exact (Option.some.inj (show some d27 = some d from hd)) ▸ ⟨F27, PySem.W.mg_of X G a27, b27⟩
      | 28, hd => exact (Option.some.inj (show some d28 = some d from hd)) ▸ ⟨F28, PySem.W.mg_of X G a28, b28⟩
      | 29, hd => exact (Option.some.inj (show some d29 = some d from hd)) ▸ ⟨F29, PySem.W.mg_of X G a29, b29⟩
      | 30, hd => exact (Option.some.inj (show some d30 = some d from hd)) ▸ ⟨F30, PySem.W.mg_of X G a30, b30⟩
      | n + 31, hd => exact nomatch (show none = some d from hd)
    · match i, hx with
      | 0, rfl => exact ⟨_, .int 6, PySem.W.mg_of X G g0, ⟨_, rfl⟩, fun w => .int _⟩
      | n + 1, hx => exact nomatch (show none = some _ from hx)
    · simp only [bnames, List.mem_cons, List.not_mem_nil, or_false] at hx
      rcases hx with rfl | rfl | rfl | rfl | rfl | rfl | rfl | rfl | rfl | rfl | rfl | rfl | rfl | rfl
      · exact PySem.W.mg_none_of X G z0
      · exact PySem.W.mg_none_of X G z1
      · exact PySem.W.mg_none_of X G z2
      · exact PySem.W.mg_none_of X G z3
      · exact PySem.W.mg_none_of X G z4
      · exact PySem.W.mg_none_of X G z5
      · exact PySem.W.mg_none_of X G z6
      · exact PySem.W.mg_none_of X G z7
      · exact PySem.W.mg_none_of X G z8
      · exact PySem.W.mg_none_of X G z9
      · exact PySem.W.mg_none_of X G z10
      · exact PySem.W.mg_none_of X G z11
      · exact PySem.W.mg_none_of X G z12
      · exact PySem.W.mg_none_of X G z13
  exact ⟨PySem.W.fnOf "law" "law" (defArgs s_law) (defBody s_law) (defScope s_law) .none kV30 dc30 pm30 an30 cd30 ct30, fun s v => .of_eq rfl, fun base _ _ => by
    have q := lv_all (base := base) T dok 31 (Nat.le_refl _) 30 _ rfl
    exact q⟩
end Pv

open PySem PySem.W PyProof.Rows in
set_option maxRecDepth 100000 in
set_option maxHeartbeats 0 in
theorem PySem.Challenge.cw_lateposts_k06_whole_hearing_holds : PySem.Challenge.rw_lateposts_k06_whole_hearing.Holds := by
  w_on; o_law; k_head; (case hw => w_witness2)
  k_fill
  refine Pv.walkG (x := "_law_script") (l := PySem.Challenge.rw_lateposts_k06_whole_hearing) (n := 63) (k := 36) rfl (by decide) rfl ⟨rfl, by decide, by decide⟩ (fun w h Y => PySem.W.kIn_of Y) ?F
  case F =>
    intro w mg fa h KX G hmg
    refine' Pv.all_mk KX G hmg ?ya0 ?yl0 ?yc0 ?yk0 ?ya1 ?yl1 ?yc1 ?yk1 ?ya2 ?yl2 ?yc2 ?yk2 ?ya3 ?yl3 ?yc3 ?yk3 ?ya4 ?yl4 ?yc4 ?yk4 ?ya5 ?yl5 ?yc5 ?yk5 ?ya6 ?yl6 ?yc6 ?yk6 ?ya7 ?yl7 ?yc7 ?yk7 ?ya8 ?yl8 ?yc8 ?yk8 ?ya9 ?yl9 ?yc9 ?yk9 ?ya10 ?yl10 ?yc10 ?yk10 ?ya11 ?yl11 ?yc11 ?yk11 ?ya12 ?yl12 ?yc12 ?yk12 ?yw12_0 ?ya13 ?yl13 ?yc13 ?yk13 ?yw13_0 ?ya14 ?yl14 ?yc14 ?yk14 ?ya15 ?yl15 ?yc15 ?yk15 ?ya16 ?yl16 ?yc16 ?yk16 ?ya17 ?yl17 ?yc17 ?yk17 ?ya18 ?yl18 ?yc18 ?yk18 ?ya19 ?yl19 ?yc19 ?yk19 ?ya20 ?yl20 ?yc20 ?yk20 ?ya21 ?yl21 ?yc21 ?yk21 ?ya22 ?yl22 ?yc22 ?yk22 ?ya23 ?yl23 ?yc23 ?yk23 ?ya24 ?yl24 ?yc24 ?yk24 ?ya25 ?yl25 ?yc25 ?yk25 ?ya26 ?yl26 ?yc26 ?yk26 ?ya27 ?yl27 ?yc27 ?yk27 ?ya28 ?yl28 ?yc28 ?yk28 ?ya29 ?yl29 ?yc29 ?yk29 ?ya30 ?yl30 ?yc30 ?yk30 ?yg0 ?yz0 ?yz1 ?yz2 ?yz3 ?yz4 ?yz5 ?yz6 ?yz7 ?yz8 ?yz9 ?yz10 ?yz11 ?yz12 ?yz13
    (case ya0 => k_is)
    (case yl0 => k_is)
    (case yc0 => k_is)
    (case yk0 => k_is)
    (case ya1 => k_is)
    (case yl1 => k_is)
    (case yc1 => k_is)
    (case yk1 => k_is)
    (case ya2 => k_is)
    (case yl2 => k_is)
    (case yc2 => k_is)
    (case yk2 => k_is)
    (case ya3 => k_is)
    (case yl3 => k_is)
    (case yc3 => k_is)
    (case yk3 => k_is)
    (case ya4 => k_is)
    (case yl4 => k_is)
    (case yc4 => k_is)
    (case yk4 => k_is)
    (case ya5 => k_is)
    (case yl5 => k_is)
    (case yc5 => k_is)
    (case yk5 => k_is)
    (case ya6 => k_is)
    (case yl6 => k_is)
    (case yc6 => k_is)
    (case yk6 => k_is)
    (case ya7 => k_is)
    (case yl7 => k_is)
    (case yc7 => k_is)
    (case yk7 => k_is)
    (case ya8 => k_is)
    (case yl8 => k_is)
    (case yc8 => k_is)
    (case yk8 => k_is)
    (case ya9 => k_is)
    (case yl9 => k_is)
    (case yc9 => k_is)
    (case yk9 => k_is)
    (case ya10 => k_is)
    (case yl10 => k_is)
    (case yc10 => k_is)
    (case yk10 => k_is)
    (case ya11 => k_is)
    (case yl11 => k_is)
    (case yc11 => k_is)
    (case yk11 => k_is)
    (case ya12 => k_is)
    (case yl12 => k_is)
    (case yc12 => k_is)
    (case yk12 => k_is)
    (case yw12_0 => k_is)
    (case ya13 => k_is)
    (case yl13 => k_is)
    (case yc13 => k_is)
    (case yk13 => k_is)
    (case yw13_0 => k_is)
    (case ya14 => k_is)
    (case yl14 => k_is)
    (case yc14 => k_is)
    (case yk14 => k_is)
    (case ya15 => k_is)
    (case yl15 => k_is)
    (case yc15 => k_is)
    (case yk15 => k_is)
    (case ya16 => k_is)
    (case yl16 => k_is)
    (case yc16 => k_is)
    (case yk16 => k_is)
    (case ya17 => k_is)
    (case yl17 => k_is)
    (case yc17 => k_is)
    (case yk17 => k_is)
    (case ya18 => k_is)
    (case yl18 => k_is)
    (case yc18 => k_is)
    (case yk18 => k_is)
    (case ya19 => k_is)
    (case yl19 => k_is)
    (case yc19 => k_is)
    (case yk19 => k_is)
    (case ya20 => k_is)
    (case yl20 => k_is)
    (case yc20 => k_is)
    (case yk20 => k_is)
    (case ya21 => k_is)
    (case yl21 => k_is)
    (case yc21 => k_is)
    (case yk21 => k_is)
    (case ya22 => k_is)
    (case yl22 => k_is)
    (case yc22 => k_is)
    (case yk22 => k_is)
    (case ya23 => k_is)
    (case yl23 => k_is)
    (case yc23 => k_is)
    (case yk23 => k_is)
    (case ya24 => k_is)
    (case yl24 => k_is)
    (case yc24 => k_is)
    (case yk24 => k_is)
    (case ya25 => k_is)
    (case yl25 => k_is)
    (case yc25 => k_is)
    (case yk25 => k_is)
    (case ya26 => k_is)
    (case yl26 => k_is)
    (case yc26 => k_is)
    (case yk26 => k_is)
    (case ya27 => k_is)
    (case yl27 => k_is)
    (case yc27 => k_is)
    (case yk27 => k_is)
    (case ya28 => k_is)
    (case yl28 => k_is)
    (case yc28 => k_is)
    (case yk28 => k_is)
    (case ya29 => k_is)
    (case yl29 => k_is)
    (case yc29 => k_is)
    (case yk29 => k_is)
    (case ya30 => k_is)
    (case yl30 => k_is)
    (case yc30 => k_is)
    (case yk30 => k_is)
    (case yg0 => k_is)
    (case yz0 => k_is)
    (case yz1 => k_is)
    (case yz2 => k_is)
    (case yz3 => k_is)
    (case yz4 => k_is)
    (case yz5 => k_is)
    (case yz6 => k_is)
    (case yz7 => k_is)
    (case yz8 => k_is)
    (case yz9 => k_is)
    (case yz10 => k_is)
    (case yz11 => k_is)
    (case yz12 => k_is)
    (case yz13 => k_is)
#print axioms PySem.Challenge.cw_lateposts_k06_whole_hearing_holds

